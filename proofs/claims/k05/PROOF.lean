import PyProof.Rows.All
import Wide.All
import OpenK.AllK
import Wide.FinOn
import PyProof.EqAt
import PyProof.EqKinds
import PyProof.TupleCall
import HandS.ForMost
import HandS.IsInst
import HandS.Conv
import HandS.Gcd
import HandS.Wide
import HandS.WideBits
import HandS.Style
import HandS.ForExc
import Flt.RightSqrt
import HandS.OwnEq
import HandS.TupAny
import HandS.Exc
import HandS.ExcInit
import HandS.ExcField
import HandS.ExcValue
import HandS.WordsExc
import HandS.ExcIs
import KE.KExcIs
import HandS.Defaults
import PySem.Challenge.RW_slitsheets_k05_root_numbers_refused
set_option Elab.async false
set_option linter.all false
set_option maxRecDepth 100000
set_option maxHeartbeats 4000000
set_option exponentiation.threshold 4000
/-! Rules and words that all laws share. -/
namespace Kx
open PySem PySem.Spec PyProof.Rows L2

abbrev SV := L2.St
/-! ### a def of the text under its name -/
structure DefAt (P : Program) (w : World) (K : PySem.W.Frag) (mg : Str → Option Value) (base : Heap) (k : Nat) (x : Str) (f : Addr) (fd : FuncData) (ps : List Str) (sp : Sp) : Prop where
  F : FnOk P w K mg base CX0 k f fd ps sp
  m : mg x = some (.ref f)
  kp : PySem.W.keepIn K (.ref f) = true
  b : Binds K fd ps []
def tD (sp : Sp) (t : TA) : TE := fun σ H Q => t σ H fun vs H1 => sp vs H1 Q E0
def tDK (sp : Sp) (gV : List V → List V) (t : TA) : TE := fun σ H Q => t σ H fun zs H1 => sp (gV zs) H1 Q E0
section
variable {X : Cx} {k j : Nat} {f : Addr} {fd : FuncData} {ps ks : List Str} {sp : Sp} {x : Str} {p pos : Pos} {e : Expr} {es : List Expr} {t tk : TA} {kws : List Keyword}
theorem pe_d (D : DefAt X.prog X.w X.K X.mg X.base k x f fd ps sp) (hr : Room j X.A) (ha : PA X (e :: es) t) (hkj : k ≤ j := by decide) (hg : Gl X x := by rfl) (hdb : (x == ("__debug__" : Str)) = false := by decide)
    (he : starEach (e :: es) X.env = (false, eval e X.env) :: starEach es X.env := by rfl) (hpl : (backTo pos (starEach es X.env)).any (·.1) = false := by rfl) : PE X (.Call (.Name x p) (e :: es) [] pos) (tD sp t) := by
  refine ⟨fun pins s σ H Q I h => ?_⟩
  refine (pe_call (dvs := []) D.F (hr.mono hkj) hg D.m D.kp D.b .nil pass0 ha hdb he hpl).run pins s σ H Q I ?_
  have e : (tCall sp [] E0 t) = tD sp t := by funext a b c; unfold tCall tD; simp only [List.append_nil]
  rw [e]
  exact h
/-- how a call by keywords alone binds -/
structure KB0 (K : PySem.W.Frag) (fd : FuncData) (ps ks : List Str) (g : List Value → List Value) (gV : List V → List V) : Prop where
  to : ∀ (s : Shared) (ws : List Value), ws.length = ks.length → BindsTo s fd ⟨[], ks.zip ws⟩ (ps.zip (g ws))
  rel : ∀ {zs : List V} {ws : List Value}, zs.length = ks.length → Vals zs ws → Vals (gV zs) (g ws)
  ln : ∀ zs : List V, (gV zs).length = ps.length → zs.length = ks.length
/-- f(k = v, ..): keywords alone -/
theorem pe_dk {g : List Value → List Value} {gV : List V → List V} (D : DefAt X.prog X.w X.K X.mg X.base k x f fd ps sp) (hr : Room j X.A) (hb : KB0 X.K fd ps ks g gV) (hkw : PK X kws tk) (hkj : k ≤ j := by decide) (hg : Gl X x := by rfl)
    (hall : (backToKw pos (keywordEach kws X.env)).all (·.1.isSome) = true := by rfl) (hks : (backToKw pos (keywordEach kws X.env)).filterMap (·.1) = ks := by rfl) (hdb : (x == ("__debug__" : Str)) = false := by decide)
    (hpl : ((backTo pos (starEach [] X.env)).any (·.1) || (backToKw pos (keywordEach kws X.env)).any (·.1.isNone)) = false := by rfl) :
    PE X (.Call (.Name x p) [] kws pos) (tDK sp gV tk) := by
  refine ⟨fun pins s σ H Q I h => ?_⟩
  refine wpAny_Call_Name_kw (ld_glob I hg D.m ?_ hdb)
  refine PySem.W.callWith_KW0 (h₀ := X.base) I.ok.mod.kin D.kp hall ?_ hpl
  refine thn (hkw.run pos pins s σ H _ I h) fun ws s2 ⟨zs, H2, I2, rz, q2⟩ => ⟨I2.kIn, ?_⟩
  rw [hks]
  have lz := hb.ln zs (D.F.len _ _ _ _ q2)
  have b := hb.to s2 ws (rz.length.symm.trans lz)
  refine wpAny_call (codeAny_mono (D.F.run X.A X.stack s2 H2 ⟨[], ks.zip ws⟩ (g ws) (gV zs) Q E0 (hr.mono hkj) I2.env0 b (hb.rel lz rz) q2) fun r s' hq => ?_)
  cases r with
  | error e => exact (hq : False).elim
  | ok fl =>
    cases fl with
    | ret u => exact I2.after hq
    | next => exact False.elim hq
    | brk => exact False.elim hq
    | cont => exact False.elim hq
theorem kb_mk {K : PySem.W.Frag} {x qual : Str} {st : Stmt} {f : Addr} {fd : FuncData} {ps ks : List Str} {g : List Value → List Value} {gV : List V → List V} (F : Fun K x qual st f fd)
    (h : ∀ (kV doc pm : Value) (an : Option Addr) (cdv ct : Value) (ws : List Value), ws.length = ks.length → bindArgs (PySem.W.fnOf x qual (defArgs st) (defBody st) (defScope st) .none kV doc pm an cdv ct) ⟨[], ks.zip ws⟩ = pure (ps.zip (g ws)))
    (hr : ∀ {zs : List V} {ws : List Value}, zs.length = ks.length → Vals zs ws → Vals (gV zs) (g ws)) (hl : ∀ zs : List V, (gV zs).length = ps.length → zs.length = ks.length) : KB0 K fd ps ks g gV := by
  obtain ⟨oc, od, kV, doc, pm, an, cdv, ct, osl, rfl, lk, hcd⟩ := F.ex
  exact ⟨fun s ws hw => .of_eq (h kV doc pm an cdv ct ws hw), hr, hl⟩
end

/-! ### numbers -/
/-- a divisor but 0 of at most 9000 bits -/
def DivOk (j : Int) : Prop := j ≠ 0 ∧ j.natAbs.log2 < 9000
def PowOk (i j : Int) : Prop := 0 ≤ j ∧ (Builtin.Int.intBits i : Int) * j ≤ 2 ^ 27
section
variable {X : Cx}
theorem op_fdivX : OpR X (binaryOp .FloorDiv) (rI (fun _ j => DivOk j) fun i j => .int (i.fdiv j)) := opI fun i j _ _ _ _ _ hc q =>
  floordiv_int hc.1 q (.inl (PyProof.noPylong_of_log2 hc.2))
theorem op_mulU : OpR X (binaryOp .Mult) (rI IntMulOk fun i j => .int (i * j)) := opI fun _ _ _ _ _ _ _ hc q => mul_int q hc
/-- ** of numbers whose power has at most 2 ^ 27 bits -/
theorem op_powX : OpR X (binaryOp .Pow) (rI PowOk fun i j => .int (i ^ j.toNat)) := opI fun _ _ _ _ _ _ _ hc q => pow_int hc.1 hc.2 q
/-- math.isqrt -/
def rt (n : Int) : Int := ((Float64.isqrt n.toNat : Nat) : Int)
theorem cr_isqrt : CallR X (.builtin "math.isqrt") (fun vs H Q => ∃ a : Int, vs = [.int a] ∧ 0 ≤ a ∧ a.toNat.log2 < 13000 ∧ Q (.int (rt a)) H) := by
  intro pins s σ H vs us Q I r h
  obtain ⟨a, rfl, h0, h1, q⟩ := h
  obtain ⟨u, rfl, t, rfl⟩ := vals1 r
  exact call_function_meets PySem.W.MGF.kind_isqrt PySem.W.MGF.plain_isqrt PySem.W.MGF.entry_isqrt (PySem.W.MGF.args_isqrt _) (PySem.W.mg_run_isqrt a t (by omega) (by omega) (by omega)).meets ⟨.int _, H, I.tok _, ⟨_, rfl⟩, q⟩
theorem cr_int : CallR X (.type "int") (fun xs H Q => ∃ i, xs = [.int i] ∧ Q (.int i) H) := fun pins s σ H xs us Q I r h => call_int1 pins s σ H xs us Q I r (.inl h)
/-- repr of a number, of True, False, None -/
def flatText : V → Option Str
  | .int i => if i.natAbs.log2 < 1920 then some (toString i) else none
  | .bl b => some (if b then "True" else "False")
  | .non => some "None"
  | _ => none
theorem cr_repr : CallR X (.builtin "repr") (fun vs H Q => ∃ (x : V) (z : Str), vs = [x] ∧ flatText x = some z ∧ Q (.str z) H) := by
  intro pins s σ H vs us Q I r h
  obtain ⟨x, z, rfl, hz, q⟩ := h
  obtain ⟨u, rfl, rx⟩ := vals1 r
  cases x with
  | int i =>
    obtain ⟨t, rfl⟩ := rx
    have hz2 : (if i.natAbs.log2 < 1920 then some (toString i : Str) else Option.none) = some z := hz
    by_cases hl : i.natAbs.log2 < 1920
    · rw [if_pos hl] at hz2
      have hz3 := Option.some.inj hz2
      subst hz3
      exact PySem.P.repr_of_int hl ⟨.str _, H, I.tok _, ⟨_, rfl⟩, q⟩
    · rw [if_neg hl] at hz2
      cases hz2
  | bl b =>
    cases rx
    cases hz
    exact PySem.P.repr_of_bool ⟨.str _, H, I.tok _, ⟨_, rfl⟩, q⟩
  | non =>
    cases rx
    cases hz
    exact PySem.P.repr_of_none ⟨.str _, H, I.tok _, ⟨_, rfl⟩, q⟩
  | str _ => cases hz
  | byt _ => cases hz
  | flt _ => cases hz
  | ref _ => cases hz
  | ty _ => cases hz
end

/-! ### loops, opened by hand -/
section
variable {wi : TI} {g : TG} {tb : TS} {D : Ends} {σ : SV} {H : Hp} {c : TT} {tt : TT} {te : TE} {vs : List Nat}
def ForW (J : It) (g : TG) (tb : TS) (D : Ends) (σ : SV) (H1 : Hp) : Prop := ∃ W : Nat → Nat → SV → Hp → Prop, (∃ m, W 0 m σ H1) ∧ ∀ i m σ H, W i m σ H →
  (J.stop i H ∧ D.nx σ H) ∨ (J.go i H ∧ ∃ N : SV → Hp → Prop, (∀ σ' H', N σ' H' → ∃ m', m' < m ∧ W (i + 1) m' σ' H') ∧ ∀ x H', J.yld i H x H' → g x σ H' fun σ2 H2 => tb { D with nx := N, ct := N, bk := D.nx } σ2 H2)
theorem tFor_eq : tFor wi g tb = fun D σ H => wi σ H fun J H1 => ForW J g tb D σ H1 := rfl
theorem forW_range {n : Nat} {lo : Int} (Pv : Nat → SV → Hp → Prop) (h0 : Pv 0 σ H) (hs : ∀ i σ' H', i < n → Pv i σ' H' → g (.int (lo + i)) σ' H' fun σ2 H2 => tb { D with nx := Pv (i + 1), ct := Pv (i + 1), bk := D.nx } σ2 H2)
    (hd : ∀ σ' H', Pv n σ' H' → D.nx σ' H') : ForW (Itr lo n) g tb D σ H := for_range Pv h0 hs hd
theorem forW_list {K : PySem.W.Frag} {a : Addr} {xs : List V} (Pv : Nat → SV → Hp → Prop) (h0 : Pv 0 σ H) (hl : ∀ i σ H, i ≤ xs.length → Pv i σ H → SqL K H a xs)
    (hs : ∀ i x σ' H', xs[i]? = some x → Pv i σ' H' → g x σ' H' fun σ2 H2 => tb { D with nx := Pv (i + 1), ct := Pv (i + 1), bk := D.nx } σ2 H2) (hd : ∀ σ' H', Pv xs.length σ' H' → D.nx σ' H') : ForW (Itl K a) g tb D σ H := for_list Pv h0 hl hs hd
theorem forW_tup {K : PySem.W.Frag} {a : Addr} {xs : List V} (Pv : Nat → SV → Hp → Prop) (h0 : Pv 0 σ H) (hl : ∀ i σ H, i ≤ xs.length → Pv i σ H → SqT K H a xs)
    (hs : ∀ i x σ' H', xs[i]? = some x → Pv i σ' H' → g x σ' H' fun σ2 H2 => tb { D with nx := Pv (i + 1), ct := Pv (i + 1), bk := D.nx } σ2 H2) (hd : ∀ σ' H', Pv xs.length σ' H' → D.nx σ' H') : ForW (Itt K a) g tb D σ H := for_tup Pv h0 hl hs hd
def WStep (W : Nat → SV → Hp → Prop) (m : Nat) (tb : TS) (D : Ends) (σ : SV) (H1 : Hp) : Prop := ∃ N : SV → Hp → Prop, (∀ σ' H', N σ' H' → ∃ m', m' < m ∧ W m' σ' H') ∧ tb { D with nx := N, ct := N, bk := D.nx } σ H1
theorem whileI (Pv : SV → Hp → Prop) (μ : SV → Hp → Nat) (h0 : Pv σ H) (hs : ∀ σ' H', Pv σ' H' → c σ' H' fun b H1 => if b = true then WStep (fun m σ H => m = μ σ H ∧ Pv σ H) (μ σ' H') tb D σ' H1 else D.nx σ' H1) : tWhile c tb D σ H :=
  ⟨fun m σ H => m = μ σ H ∧ Pv σ H, ⟨_, rfl, h0⟩, by
    rintro m σ1 H1 ⟨rfl, p⟩
    exact hs σ1 H1 p⟩
theorem wstep {Pv : SV → Hp → Prop} {μ : SV → Hp → Nat} {m : Nat} {H1 : Hp} (h : tb { D with nx := fun σ' H' => Pv σ' H' ∧ μ σ' H' < m, ct := fun σ' H' => Pv σ' H' ∧ μ σ' H' < m, bk := D.nx } σ H1) : WStep (fun m σ H => m = μ σ H ∧ Pv σ H) m tb D σ H1 :=
  ⟨_, fun σ' H' z => ⟨_, z.2, rfl, z.1⟩, h⟩
def LcW (J : It) (g : TG) (tt : TT) (te : TE) (vs : List Nat) (D : Addr) (σ : SV) (H1 : Hp) (Q : VK) : Prop := ∃ W : Nat → Nat → Hp → Prop, (∃ m, W 0 m (upd H1 D (.lst []))) ∧ ∀ i m H, W i m H →
  (J.stop i H ∧ Q (.ref D) H) ∨ (J.go i H ∧ ∃ Ny : Hp → Prop, (∀ H', Ny H' → ∃ m', m' < m ∧ W (i + 1) m' H') ∧ ∀ x H', J.yld i H x H' → g x (wipe σ vs) H' fun σ2 H2 => wipe σ2 vs = wipe σ vs ∧ tt σ2 H2 fun b H3 =>
    if b = true then te σ2 H3 fun y H4 => ∃ acc, H4 D = some (.lst acc) ∧ acc.length < sizeLine ∧ Ny (upd H4 D (.lst (acc ++ [y]))) else Ny H3)
theorem tLc_eq : tLc wi g tt te vs = fun σ H Q => wi σ H fun J H1 => ∀ D, H1 D = none → LcW J g tt te vs D σ H1 Q := rfl
section
variable {Dd : Addr} {Q : VK}
theorem lcW_range {n : Nat} {lo : Int} (Pv : Nat → Hp → Prop) (h0 : Pv 0 (upd H Dd (.lst [])))
    (hs : ∀ i H, i < n → Pv i H → g (.int (lo + i)) (wipe σ vs) H fun σ2 H2 => wipe σ2 vs = wipe σ vs ∧ tt σ2 H2 fun b H3 =>
      if b = true then te σ2 H3 fun y H4 => ∃ acc, H4 Dd = some (.lst acc) ∧ acc.length < sizeLine ∧ Pv (i + 1) (upd H4 Dd (.lst (acc ++ [y]))) else Pv (i + 1) H3) (hd : ∀ H, Pv n H → Q (.ref Dd) H) : LcW (Itr lo n) g tt te vs Dd σ H Q := lc_range Pv h0 hs hd
theorem lcW_list {K : PySem.W.Frag} {a : Addr} {xs : List V} (Pv : Nat → Hp → Prop) (h0 : Pv 0 (upd H Dd (.lst []))) (hl : ∀ i H, i ≤ xs.length → Pv i H → SqL K H a xs)
    (hs : ∀ i x H, xs[i]? = some x → Pv i H → g x (wipe σ vs) H fun σ2 H2 => wipe σ2 vs = wipe σ vs ∧ tt σ2 H2 fun b H3 =>
      if b = true then te σ2 H3 fun y H4 => ∃ acc, H4 Dd = some (.lst acc) ∧ acc.length < sizeLine ∧ Pv (i + 1) (upd H4 Dd (.lst (acc ++ [y]))) else Pv (i + 1) H3) (hd : ∀ H, Pv xs.length H → Q (.ref Dd) H) : LcW (Itl K a) g tt te vs Dd σ H Q := lc_list Pv h0 hl hs hd
theorem lcW_tup {K : PySem.W.Frag} {a : Addr} {xs : List V} (Pv : Nat → Hp → Prop) (h0 : Pv 0 (upd H Dd (.lst []))) (hl : ∀ i H, i ≤ xs.length → Pv i H → SqT K H a xs)
    (hs : ∀ i x H, xs[i]? = some x → Pv i H → g x (wipe σ vs) H fun σ2 H2 => wipe σ2 vs = wipe σ vs ∧ tt σ2 H2 fun b H3 =>
      if b = true then te σ2 H3 fun y H4 => ∃ acc, H4 Dd = some (.lst acc) ∧ acc.length < sizeLine ∧ Pv (i + 1) (upd H4 Dd (.lst (acc ++ [y]))) else Pv (i + 1) H3) (hd : ∀ H, Pv xs.length H → Q (.ref Dd) H) : LcW (Itt K a) g tt te vs Dd σ H Q := lc_tup Pv h0 hl hs hd
end
end

/-! ### items of what is tracked -/
section
variable {X : Cx}
theorem ixL : IxR X (fun x y H Q => ∃ p xs i v, x = .ref p ∧ y = .int i ∧ H p = some (.lst xs) ∧ atI xs i = some v ∧ Q v H) := by
  intro value slice pins s σ H x y v u Q I rx ry h hs
  obtain ⟨p, xs, i, z, e1, e2, h1, h2, q⟩ := h
  exact ix_list value slice pins s σ H x y v u Q I rx ry ⟨p, xs, i, z, e1, e2, SqL.of h1, h2, q⟩ hs
theorem ixT : IxR X (fun x y H Q => ∃ p xs i v, x = .ref p ∧ y = .int i ∧ H p = some (.tup xs) ∧ atI xs i = some v ∧ Q v H) := by
  intro value slice pins s σ H x y v u Q I rx ry h hs
  obtain ⟨p, xs, i, z, e1, e2, h1, h2, q⟩ := h
  exact ix_tup value slice pins s σ H x y v u Q I rx ry ⟨p, xs, i, z, e1, e2, SqT.of h1, h2, q⟩ hs
end
/-- a, b, .. = a tracked tuple of n items -/
def gT (n : Nat) (t : TGs) : TG := fun v σ H Q => ∃ a xs, v = .ref a ∧ H a = some (.tup xs) ∧ xs.length = n ∧ t xs σ H Q
theorem pg_tupT {X : Cx} {es : List Expr} {k : Nat} {t : TGs} {pos : Pos} (n : Nat) (hc : X.calm = true) (h : PGs X es t) (hn : (assignEach es X.env).length = n := by rfl) (hst : (assignEach es X.env).findIdx? (·.1) = none := by rfl) : PG X (.Tuple es k pos) (gT n t) := by
  refine ⟨fun pins s σ H v u Q I r hw => ?_⟩
  obtain ⟨a, xs, e1, hq, hl, hw⟩ := hw
  exact (pg_tup hc h hn hst).run pins s σ H v u Q I r ⟨a, xs, e1, SqT.of hq, hl, hw⟩
/-- a, b, .. = a tracked list of n items -/
def gL (n : Nat) (t : TGs) : TG := fun v σ H Q => ∃ a xs, v = .ref a ∧ H a = some (.lst xs) ∧ xs.length = n ∧ t xs σ H Q
theorem pg_lstT {X : Cx} {es : List Expr} {k : Nat} {t : TGs} {pos : Pos} (n : Nat) (hc : X.calm = true) (h : PGs X es t) (hn : (assignEach es X.env).length = n := by rfl) (hst : (assignEach es X.env).findIdx? (·.1) = none := by rfl) : PG X (.Tuple es k pos) (gL n t) := by
  refine ⟨fun pins s σ H v u Q I r hw => ?_⟩
  obtain ⟨a, xs, e1, hq, hl, hw⟩ := hw
  exact (pg_lst hc h hn hst).run pins s σ H v u Q I r ⟨a, xs, e1, SqL.of hq, hl, hw⟩
theorem lenL {X : Cx} : CallR X (.builtin "len") (fun xs H Q => ∃ p ys, xs = [.ref p] ∧ H p = some (.lst ys) ∧ Q (.int ys.length) H) := by
  intro pins s σ H xs us Q I r h
  obtain ⟨p, ys, e, h1, q⟩ := h
  exact call_len_seq pins s σ H xs us Q I r ⟨p, ys, e, .inl (SqL.of h1), q⟩
theorem lenT {X : Cx} : CallR X (.builtin "len") (fun xs H Q => ∃ p ys, xs = [.ref p] ∧ H p = some (.tup ys) ∧ Q (.int ys.length) H) := by
  intro pins s σ H xs us Q I r h
  obtain ⟨p, ys, e, h1, q⟩ := h
  exact call_len_seq pins s σ H xs us Q I r ⟨p, ys, e, .inr (SqT.of h1), q⟩
theorem cxK {CX : CXT} {P : Program} {w : World} {K : PySem.W.Frag} {mg : Str → Option Value} {base : Heap} {N : List Str} {qual : Str} {sc : Scope} {f : Addr} {cd : Value} {A : Around} {outer : List Env} {s : Shared} {H : Hp} {E : XK} : (cxOf CX P w K mg base N qual sc f cd A outer s H E).K = K := rfl
theorem atI_0 {α : Type} {x : α} {l : List α} : atI (x :: l) 0 = some x := atI_nat (j := 0) rfl
theorem atI_1 {α : Type} {x y : α} {l : List α} : atI (x :: y :: l) 1 = some y := atI_nat (j := 1) rfl
theorem atI_2 {α : Type} {x y z : α} {l : List α} : atI (x :: y :: z :: l) 2 = some z := atI_nat (j := 2) rfl
theorem atI_3 {α : Type} {x y z u : α} {l : List α} : atI (x :: y :: z :: u :: l) 3 = some u := atI_nat (j := 3) rfl
theorem ixN_30 : ixN 3 0 = some 0 := by decide
theorem ixN_31 : ixN 3 1 = some 1 := by decide
theorem ixN_32 : ixN 3 2 = some 2 := by decide

/-! ### sizes -/
theorem cmw {i j : Int} (h1 : -(2 ^ 2500) < i) (h2 : i < 2 ^ 2500) (h3 : -(2 ^ 2500) < j) (h4 : j < 2 ^ 2500) : IntMulOk i j :=
  CMulW.ok (wide_mul (a := 2500) (b := 2500) (by omega) (by omega) (by decide) (by decide) (by decide))
theorem cmr {i j : Int} (h1 : -(2 ^ 64) < j) (h2 : j < 2 ^ 64) : IntMulOk i j := CMul.ok (.inr ⟨h1, h2⟩)
theorem cml {i j : Int} (h1 : -(2 ^ 64) < i) (h2 : i < 2 ^ 64) : IntMulOk i j := CMul.ok (.inl ⟨h1, h2⟩)
theorem cpow {i : Int} {j : Int} (h0 : 0 ≤ j) (h1 : j ≤ 1000) (h2 : -(2 ^ 2500) < i) (h3 : i < 2 ^ 2500) : PowOk i j := by
  have h := PyProof.Rows.intBits_le (show i.natAbs < 2 ^ 2500 by omega)
  refine ⟨h0, ?_⟩
  have h4 : (Builtin.Int.intBits i : Int) ≤ 2500 := by omega
  have h5 := Int.mul_le_mul h4 h1 h0 (by decide)
  exact Int.le_trans h5 (by decide)
theorem cdiv {j : Int} (h0 : j ≠ 0) (h1 : -(2 ^ 2500) < j) (h2 : j < 2 ^ 2500) : DivOk j :=
  ⟨h0, Nat.lt_of_lt_of_le (PySem.Flt.log2_lt_of (by decide) (show j.natAbs < 2 ^ 2500 by omega)) (by decide)⟩

theorem cut1 (xs : List V) : cutV xs none (some 1) = xs.take 1 := by
  unfold cutV
  cases xs with
  | nil => rfl
  | cons x l =>
    have e : HT.sIx (x :: l).length (x :: l).length (some 1) = 1 := by simp [HT.sIx]
    have e2 : HT.sIx (x :: l).length 0 (Option.none) = 0 := rfl
    rw [e, e2]
    rfl
/-! ### the draws -/
def Keep (g : Addr) (H H' : Hp) : Prop := ∀ b o, b ≠ g → H b = some o → H' b = some o
theorem Keep.refl (g : Addr) (H : Hp) : Keep g H H := fun _ _ _ h => h
theorem Keep.trans {g : Addr} {H H1 H2 : Hp} (a : Keep g H H1) (b : Keep g H1 H2) : Keep g H H2 := fun c o n h => b c o n (a c o n h)
theorem Keep.of {g : Addr} {H H' : Hp} (a : Same H H') : Keep g H H' := fun c o _ h => a c o h
theorem Same.upd {H : Hp} {a : Addr} {o : HO} (h : H a = none) : Same H (upd H a o) := fun b u e => by
  rw [upd_ne (ne_of_none e h)]
  exact e
theorem Same.upd2 {H H1 : Hp} {a : Addr} {o : HO} (s : Same H H1) (h : H a = none) : Same H (L2.upd H1 a o) := fun b u e => by
  rw [upd_ne (ne_of_none e h)]
  exact s b u e
def GenAt (H : Hp) (g : Addr) (k : Nat) : Prop := ∃ a b c : Int, H g = some (.lst [.int a, .int b, .int c]) ∧ 0 ≤ a ∧ a < 2 ^ 2000 ∧ 0 ≤ b ∧ b < 2 ^ 32 ∧ 0 ≤ c ∧ c ≤ k
theorem GenAt.mono {H : Hp} {g : Addr} {j k : Nat} (h : GenAt H g j) (l : j ≤ k) : GenAt H g k := by
  obtain ⟨a, b, c, e, h1, h2, h3, h4, h5, h6⟩ := h
  exact ⟨a, b, c, e, h1, h2, h3, h4, h5, by omega⟩
theorem GenAt.same {H H' : Hp} {g : Addr} {k : Nat} (h : GenAt H g k) (s : Same H H') : GenAt H' g k := by
  obtain ⟨a, b, c, e, r⟩ := h
  exact ⟨a, b, c, s _ _ e, r⟩
def spHash : Sp := fun vs H Q _ => ∃ a i : Int, vs = [.int a, .int i] ∧ 0 ≤ a ∧ a < 2 ^ 32 ∧ 0 ≤ i ∧ i < 2 ^ 60 ∧ ∀ h : Int, 0 ≤ h → h < 2147483647 → Q (.int h) H
def spRandom : Sp := fun vs H Q _ => ∃ (g : Addr) (n : Int) (k : Nat), vs = [.ref g, .int n] ∧ GenAt H g k ∧ k ≤ 2 ^ 40 ∧ 1 ≤ n ∧ n < 2 ^ 300 ∧ ∀ (r : Int) (H' : Hp), 0 ≤ r → r < n → GenAt H' g (k + 20) → Keep g H H' → Q (.int r) H'
def spCell (K : PySem.W.Frag) : Sp := fun vs H Q _ => ∃ (a : Addr) (ns : List Int) (i : Int), vs = [.ref a, .int i] ∧ SqL K H a (ns.map V.int) ∧ 0 ≤ i ∧ i < 100 ∧ ∀ (r : Int) (H' : Hp), Same H H' → Q (.int r) H'
def spGen (K : PySem.W.Frag) : Sp := fun vs H Q _ => ∃ (a : Addr) (ns : List Int) (i : Int), vs = [.ref a, .int i] ∧ SqL K H a (ns.map V.int) ∧ 0 ≤ i ∧ i < 100 ∧ ∀ (g : Addr) (H' : Hp), H g = none → Same H H' → GenAt H' g 100000 → Q (.ref g) H'
/-- a def of two ints that hands back an int reckoned by F -/
def gcdI (a b : Int) : Int := ((Nat.gcd a.natAbs b.natAbs : Nat) : Int)
def spCommon : Sp := fun vs H Q _ => ∃ a b : Int, vs = [.int a, .int b] ∧ Q (.int (gcdI a b)) H
def spRoot : Sp := fun vs H Q _ => ∃ n : Int, vs = [.int n] ∧ 0 ≤ n ∧ n < 2 ^ 2000 ∧ ∀ H', Same H H' → Q (.int (rt n)) H'

/-- the number in a slot, for a measure -/
def slotN (σ : SV) (i : Nat) : Nat := match σ[i]? with
  | some (some (.int v)) => v.toNat
  | _ => 0
theorem gcdI_step {x y : Int} (hx : 0 ≤ x) (hy : 0 < y) : gcdI y (x % y) = gcdI x y := by
  unfold gcdI
  have e : (x % y).natAbs = x.natAbs % y.natAbs := by
    have h1 := Int.emod_nonneg x (show y ≠ 0 by omega)
    have h2 : ((x.natAbs % y.natAbs : Nat) : Int) = x % y := by
      rw [Int.natCast_emod, Int.natAbs_of_nonneg hx, Int.natAbs_of_nonneg (by omega)]
    omega
  rw [e, Nat.gcd_comm, ← Nat.gcd_rec, Nat.gcd_comm]
theorem gcdI_zero {x : Int} (hx : 0 ≤ x) : gcdI x 0 = x := by
  unfold gcdI
  rw [show (0 : Int).natAbs = 0 from rfl, Nat.gcd_zero_right]
  omega
theorem gcdI_abs (a b : Int) : gcdI (if a < 0 then -a else a) (if b < 0 then -b else b) = gcdI a b := by
  unfold gcdI
  have h : ∀ z : Int, (if z < 0 then -z else z).natAbs = z.natAbs := fun z => by split <;> omega
  rw [h, h]
theorem rt_spec {n : Int} (h : 0 ≤ n) : 0 ≤ rt n ∧ rt n * rt n ≤ n ∧ n < (rt n + 1) * (rt n + 1) := by
  obtain ⟨m, rfl⟩ := Int.eq_ofNat_of_zero_le h
  have q := PySem.Float64.isqrt_spec m
  unfold rt
  rw [Int.toNat_natCast]
  refine ⟨Int.natCast_nonneg _, ?_, ?_⟩
  · exact_mod_cast q.1
  · exact_mod_cast q.2
theorem sq_mono {x y : Int} (h : 0 ≤ x) (h2 : x ≤ y) : x * x ≤ y * y := Int.mul_le_mul h2 h2 h (by omega)
theorem rt_unique {n r : Int} (h : 0 ≤ n) (h0 : 0 ≤ r) (h1 : r * r ≤ n) (h2 : n < (r + 1) * (r + 1)) : r = rt n := by
  obtain ⟨s0, s1, s2⟩ := rt_spec h
  have a : ¬ r + 1 ≤ rt n := fun z => by
    have q := sq_mono (by omega) z
    omega
  have b : ¬ rt n + 1 ≤ r := fun z => by
    have q := sq_mono (by omega) z
    omega
  omega
theorem lg {n : Int} (h : n < 2 ^ 3900) : n.toNat.log2 < 13000 := by
  by_cases h0 : n.toNat = 0
  · rw [h0]; decide
  · have h2 : n.toNat < 2 ^ 3900 := by omega
    have := (Nat.log2_lt h0).mpr h2
    omega
theorem rGcd_eq : rGcd = fun vs H Q => ∃ a b : Int, vs = [.int a, .int b] ∧ Q (.int (gcdI a b)) H := rfl
theorem scal_ii {a b : Int} : scal (.int a) (.int b) = true := rfl
theorem scal_bb {a b : Bool} : scal (.bl a) (.bl b) = true := rfl
theorem scal_ss {a b : Str} : scal (.str a) (.str b) = true := rfl
end Kx

set_option Elab.async false
set_option linter.all false
set_option maxRecDepth 100000
set_option maxHeartbeats 4000000
set_option exponentiation.threshold 4000
/-! Root numbers as plain functions. -/
namespace Kx
open PySem

def Sq (D : Int) : Prop := rt D * rt D = D
instance (D : Int) : Decidable (Sq D) := by unfold Sq; infer_instance
def sgn (x : Int) : Int := if x = 0 then 0 else if 0 < x then 1 else -1
def sideF (D x y : Int) : Int :=
  if x = 0 ∧ y = 0 then 0 else if 0 ≤ x ∧ 0 ≤ y then 1 else if x ≤ 0 ∧ y ≤ 0 then -1 else
  if x * x - D * y * y = 0 then 0 else if (decide (0 < x * x - D * y * y) = decide (0 < x)) then 1 else -1
def sideP (D x y : Int) : Int := if D * y * y < x * x then sgn x else sgn y
theorem sq_of {D x y : Int} (hD : 0 ≤ D) (hy : y ≠ 0) (h : x * x = D * y * y) : Sq D := by
  have hyn : 0 < y.natAbs := Int.natAbs_pos.mpr hy
  obtain ⟨m, rfl⟩ := Int.eq_ofNat_of_zero_le hD
  have hn : x.natAbs * x.natAbs = m * (y.natAbs * y.natAbs) := by
    have e := congrArg Int.natAbs h
    rw [Int.natAbs_mul, Int.natAbs_mul, Int.natAbs_mul, Int.natAbs_natCast, Nat.mul_assoc] at e
    exact e
  have hd : y.natAbs ∣ x.natAbs := by
    have h1 : y.natAbs ^ 2 ∣ x.natAbs ^ 2 := ⟨m, by rw [Nat.pow_two, Nat.pow_two, hn]; exact Nat.mul_comm _ _⟩
    exact (Nat.pow_dvd_pow_iff (by decide)).mp h1
  obtain ⟨k, hk⟩ := hd
  have hm : k * k = m := by
    rw [hk] at hn
    have e : y.natAbs * y.natAbs * (k * k) = y.natAbs * y.natAbs * m := by
      rw [Nat.mul_comm (y.natAbs * y.natAbs) m, ← hn]
      simp only [Nat.mul_assoc, Nat.mul_left_comm]
    exact Nat.eq_of_mul_eq_mul_left (Nat.mul_pos hyn hyn) e
  have e : ((k : Nat) : Int) = rt (m : Int) := by
    refine rt_unique (Int.natCast_nonneg _) (Int.natCast_nonneg _) ?_ ?_
    · rw [← hm]
      exact Int.le_of_eq (Int.natCast_mul k k).symm
    · rw [← hm]
      have : (((k * k : Nat)) : Int) = (k : Int) * (k : Int) := Int.natCast_mul k k
      rw [this]
      have h2 : ((k : Int) + 1) * ((k : Int) + 1) = (k : Int) * k + 2 * k + 1 := by grind
      omega
  unfold Sq
  rw [← e, ← hm]
  exact (Int.natCast_mul k k).symm
theorem dyy_nn {D y : Int} (hD : 0 ≤ D) : 0 ≤ D * y * y := by
  rw [Int.mul_assoc]
  exact Int.mul_nonneg hD (by
    rcases Int.le_total 0 y with h | h
    · exact Int.mul_nonneg h h
    · exact Int.mul_nonneg_of_nonpos_of_nonpos h h)
theorem dyy_pos {D y : Int} (hD : 0 < D) (hy : y ≠ 0) : 0 < D * y * y := by
  have h1 : 0 < y * y := by
    rcases Int.lt_or_gt_of_ne hy with h | h
    · exact Int.mul_pos_of_neg_of_neg h h
    · exact Int.mul_pos h h
  rw [Int.mul_assoc]
  exact Int.mul_pos hD h1
theorem xx_pos {x : Int} (hx : x ≠ 0) : 0 < x * x := by
  rcases Int.lt_or_gt_of_ne hx with h | h
  · exact Int.mul_pos_of_neg_of_neg h h
  · exact Int.mul_pos h h
theorem side_eq {D x y : Int} (hD : 0 < D) (h : y = 0 ∨ ¬ Sq D) : sideP D x y = sideF D x y := by
  have hne : y ≠ 0 → x * x ≠ D * y * y := fun hy e => by
    rcases h with h | h
    · exact hy h
    · exact h (sq_of (by omega) hy e)
  have f1 : x = 0 → x * x = 0 := fun e => by rw [e]; rfl
  have f2 : x ≠ 0 → 0 < x * x := xx_pos
  have f3 : y = 0 → D * y * y = 0 := fun e => by rw [e, Int.mul_zero]
  have f4 : y ≠ 0 → 0 < D * y * y := dyy_pos hD
  unfold sideP sideF sgn
  simp only [decide_eq_decide]
  generalize x * x = u at *
  generalize D * y * y = v at *
  repeat' split
  all_goals omega
/-- the floor of y times the root -/
def flM (D y : Int) : Int := if 0 ≤ y then rt (D * y * y) else -rt (D * y * y - 1) - 1
theorem floor_low {D y z : Int} (hD : 0 < D) (h : -flM D y ≤ z) : 0 ≤ sideF D z y := by
  unfold flM at h
  unfold sideF
  by_cases hy : 0 ≤ y
  · rw [if_pos hy] at h
    obtain ⟨s0, s1, s2⟩ := rt_spec (dyy_nn (y := y) (Int.le_of_lt hD))
    by_cases hz : 0 ≤ z
    · by_cases h0 : z = 0 ∧ y = 0
      · rw [if_pos h0]; decide
      · rw [if_neg h0, if_pos ⟨hz, hy⟩]; decide
    · have h1 : z * z ≤ D * y * y := by
        have := sq_mono (x := -z) (y := rt (D * y * y)) (by omega) (by omega)
        have e : -z * -z = z * z := by grind
        omega
      have hy0 : y ≠ 0 := fun e => by
        subst e
        have h2 : 0 < z * z := xx_pos (by omega)
        rw [Int.mul_zero] at h1
        omega
      rw [if_neg (by omega), if_neg (by omega), if_neg (by omega)]
      by_cases h4 : z * z - D * y * y = 0
      · rw [if_pos h4]; decide
      · rw [if_neg h4, if_pos (by rw [decide_eq_false (by omega), decide_eq_false (by omega)])]; decide
  · rw [if_neg hy] at h
    have hp := dyy_pos hD (show y ≠ 0 by omega)
    obtain ⟨s0, s1, s2⟩ := rt_spec (show 0 ≤ D * y * y - 1 by omega)
    have hz : 0 < z := by omega
    have h1 : D * y * y ≤ z * z := by
      have := sq_mono (x := rt (D * y * y - 1) + 1) (y := z) (by omega) (by omega)
      omega
    rw [if_neg (by omega), if_neg (by omega), if_neg (by omega)]
    by_cases h4 : z * z - D * y * y = 0
    · rw [if_pos h4]; decide
    · rw [if_neg h4, if_pos (by rw [decide_eq_true (by omega), decide_eq_true hz])]; decide
theorem floor_high {D y z : Int} (hD : 0 < D) (h : z ≤ -1 - flM D y) : sideF D z y < 0 := by
  unfold flM at h
  unfold sideF
  by_cases hy : 0 ≤ y
  · rw [if_pos hy] at h
    obtain ⟨s0, s1, s2⟩ := rt_spec (dyy_nn (y := y) (Int.le_of_lt hD))
    by_cases hy0 : y = 0
    · rw [if_neg (by omega), if_neg (by omega), if_pos (by omega)]; decide
    · have h1 : D * y * y < z * z := by
        have := sq_mono (x := rt (D * y * y) + 1) (y := -z) (by omega) (by omega)
        have e : -z * -z = z * z := by grind
        omega
      rw [if_neg (by omega), if_neg (by omega), if_neg (by omega), if_neg (by omega), if_neg (by rw [decide_eq_true (show 0 < z * z - D * y * y by omega), decide_eq_false (by omega)]; decide)]
      decide
  · rw [if_neg hy] at h
    have hp := dyy_pos hD (show y ≠ 0 by omega)
    obtain ⟨s0, s1, s2⟩ := rt_spec (show 0 ≤ D * y * y - 1 by omega)
    by_cases hz : z ≤ 0
    · rw [if_neg (by omega), if_neg (by omega), if_pos (by omega)]; decide
    · have h1 : z * z < D * y * y := by
        have := sq_mono (x := z) (y := rt (D * y * y - 1)) (by omega) (by omega)
        omega
      rw [if_neg (by omega), if_neg (by omega), if_neg (by omega), if_neg (by omega), if_neg (by rw [decide_eq_false (show ¬ 0 < z * z - D * y * y by omega), decide_eq_true (by omega)]; decide)]
      decide
/-! ### least terms -/
def lsg (x y b : Int) : Int := if b < 0 then 0 - gcdI (gcdI x y) b else gcdI (gcdI x y) b
def red (x y b : Int) : Int × Int × Int := (x.fdiv (lsg x y b), y.fdiv (lsg x y b), b.fdiv (lsg x y b))
def least (D x y b : Int) : Int × Int × Int := if rt D * rt D = D then red (x + y * rt D) 0 b else red x y b
theorem gcdI_nn (a b : Int) : 0 ≤ gcdI a b := Int.natCast_nonneg _
theorem gcdI_dvdl (a b : Int) : gcdI a b ∣ a := Int.gcd_dvd_left a b
theorem gcdI_dvdr (a b : Int) : gcdI a b ∣ b := Int.gcd_dvd_right a b
theorem gcdI_pos {a b : Int} (h : b ≠ 0) : 0 < gcdI a b := by
  unfold gcdI
  have := Nat.gcd_pos_of_pos_right a.natAbs (Int.natAbs_pos.mpr h)
  omega
theorem gcdI_le {a b : Int} (h : b ≠ 0) : gcdI a b ≤ b.natAbs := by
  unfold gcdI
  have := Nat.gcd_le_right a.natAbs (Int.natAbs_pos.mpr h)
  omega
theorem gcdI_mul (k a b : Int) : gcdI (k * a) (k * b) = k.natAbs * gcdI a b := by
  have h := Int.gcd_mul_left k a b
  unfold gcdI
  have h2 : ((k * a).natAbs.gcd (k * b).natAbs) = k.natAbs * (a.natAbs.gcd b.natAbs) := h
  rw [h2, Int.natCast_mul]
theorem lsg_ne {x y b : Int} (h : b ≠ 0) : lsg x y b ≠ 0 := by
  have := gcdI_pos (a := gcdI x y) h
  unfold lsg
  split <;> omega
theorem lsg_size {x y b : Int} (h : b ≠ 0) : (lsg x y b).natAbs ≤ b.natAbs := by
  have h1 := gcdI_le (a := gcdI x y) h
  have h2 := gcdI_nn (gcdI x y) b
  unfold lsg
  split <;> omega
theorem lsg_abs {x y b : Int} : ((lsg x y b).natAbs : Int) = gcdI (gcdI x y) b := by
  have h2 := gcdI_nn (gcdI x y) b
  unfold lsg
  split <;> omega
/-- the three numbers as multiples -/
theorem red_mul {x y b : Int} (h : b ≠ 0) : x = lsg x y b * (red x y b).1 ∧ y = lsg x y b * (red x y b).2.1 ∧ b = lsg x y b * (red x y b).2.2 := by
  have hs := lsg_ne (x := x) (y := y) h
  have hd : ∀ z : Int, gcdI (gcdI x y) b ∣ z → z = lsg x y b * (z.fdiv (lsg x y b)) := fun z hz => by
    have h1 : lsg x y b ∣ z := by
      unfold lsg
      split
      · rw [Int.zero_sub]; exact Int.neg_dvd.mpr hz
      · exact hz
    obtain ⟨q, e⟩ := h1
    have e2 : z.fdiv (lsg x y b) = q := by
      have := Int.mul_fdiv_cancel_left (a := lsg x y b) q hs
      rw [← e] at this
      exact this
    rw [e2]; exact e
  exact ⟨hd x (Int.dvd_trans (gcdI_dvdl _ _) (gcdI_dvdl _ _)), hd y (Int.dvd_trans (gcdI_dvdl _ _) (gcdI_dvdr _ _)), hd b (gcdI_dvdr _ _)⟩
theorem gcd3_mul (k a b c : Int) : gcdI (gcdI (k * a) (k * b)) (k * c) = k.natAbs * gcdI (gcdI a b) c := by
  rw [gcdI_mul]
  have : gcdI ((k.natAbs : Int) * gcdI a b) (k * c) = gcdI (k * gcdI a b) (k * c) := by
    unfold gcdI
    rw [Int.natAbs_mul, Int.natAbs_mul k, Int.natAbs_natCast, Int.natAbs_mul k]
  rw [this, gcdI_mul]
theorem red_gcd {x y b : Int} (h : b ≠ 0) : gcdI (gcdI (red x y b).1 (red x y b).2.1) (red x y b).2.2 = 1 := by
  obtain ⟨e1, e2, e3⟩ := red_mul (x := x) (y := y) h
  have hp := gcdI_pos (a := gcdI x y) h
  have hg : gcdI (gcdI x y) b = (lsg x y b).natAbs * gcdI (gcdI (red x y b).1 (red x y b).2.1) (red x y b).2.2 := by
    rw [← gcd3_mul, ← e1, ← e2, ← e3]
  rw [lsg_abs] at hg
  have h2 : gcdI (gcdI x y) b * 1 = gcdI (gcdI x y) b * gcdI (gcdI (red x y b).1 (red x y b).2.1) (red x y b).2.2 := by
    rw [Int.mul_one]; exact hg
  exact (Int.eq_of_mul_eq_mul_left (by omega) h2).symm
theorem red_below {x y b : Int} (h : b ≠ 0) : 1 ≤ (red x y b).2.2 := by
  obtain ⟨_, _, e3⟩ := red_mul (x := x) (y := y) h
  have hs := lsg_ne (x := x) (y := y) h
  have hp := gcdI_pos (a := gcdI x y) h
  generalize (red x y b).2.2 = q at *
  by_cases hb : b < 0
  · have hl : lsg x y b < 0 := by unfold lsg; rw [if_pos hb]; omega
    by_cases hq : 1 ≤ q
    · exact hq
    · have := Int.mul_nonneg_of_nonpos_of_nonpos (Int.le_of_lt hl) (show q ≤ 0 by omega)
      omega
  · have hl : 0 < lsg x y b := by unfold lsg; rw [if_neg hb]; omega
    by_cases hq : 1 ≤ q
    · exact hq
    · have := Int.mul_nonpos_of_nonneg_of_nonpos (Int.le_of_lt hl) (show q ≤ 0 by omega)
      omega
theorem fdiv_size {z s q : Int} (hs : s ≠ 0) (e : z = s * q) : q.natAbs ≤ z.natAbs := by
  rw [e, Int.natAbs_mul]
  exact Nat.le_mul_of_pos_left _ (Int.natAbs_pos.mpr hs)
theorem red_size {x y b : Int} (h : b ≠ 0) : (red x y b).1.natAbs ≤ x.natAbs ∧ (red x y b).2.1.natAbs ≤ y.natAbs ∧ (red x y b).2.2.natAbs ≤ b.natAbs := by
  obtain ⟨e1, e2, e3⟩ := red_mul (x := x) (y := y) h
  have hs := lsg_ne (x := x) (y := y) h
  exact ⟨fdiv_size hs e1, fdiv_size hs e2, fdiv_size hs e3⟩
/-- what a triple needs to be the one: unique -/
theorem red_unique {x y b X Y B s : Int} (hs : s ≠ 0) (hB : 1 ≤ B) (hg : gcdI (gcdI X Y) B = 1) (e1 : x = s * X) (e2 : y = s * Y) (e3 : b = s * B) : red x y b = (X, Y, B) := by
  have hl : lsg x y b = s := by
    have hgc : gcdI (gcdI x y) b = s.natAbs := by rw [e1, e2, e3, gcd3_mul, hg, Int.mul_one]
    unfold lsg
    rw [hgc]
    by_cases h : s < 0
    · have : b < 0 := by rw [e3]; exact Int.mul_neg_of_neg_of_pos h (by omega)
      rw [if_pos this]; omega
    · have : ¬ b < 0 := by
        have := Int.mul_nonneg (show 0 ≤ s by omega) (show 0 ≤ B by omega)
        rw [e3]; omega
      rw [if_neg this]; omega
  unfold red
  rw [hl, e1, e2, e3, Int.mul_fdiv_cancel_left _ hs, Int.mul_fdiv_cancel_left _ hs, Int.mul_fdiv_cancel_left _ hs]
theorem red_scale {x y b k : Int} (hk : k ≠ 0) (hb : b ≠ 0) : red (k * x) (k * y) (k * b) = red x y b := by
  obtain ⟨e1, e2, e3⟩ := red_mul (x := x) (y := y) hb
  refine red_unique (s := k * lsg x y b) (Int.mul_ne_zero hk (lsg_ne hb)) (red_below hb) (red_gcd hb) ?_ ?_ ?_
  · rw [Int.mul_assoc]; exact congrArg (k * ·) e1
  · rw [Int.mul_assoc]; exact congrArg (k * ·) e2
  · rw [Int.mul_assoc]; exact congrArg (k * ·) e3
theorem least_scale {D x y b k : Int} (hk : k ≠ 0) (hb : b ≠ 0) : least D (k * x) (k * y) (k * b) = least D x y b := by
  unfold least
  split
  · rw [show k * x + k * y * rt D = k * (x + y * rt D) by grind]
    have := red_scale (x := x + y * rt D) (y := 0) hk hb
    rwa [Int.mul_zero] at this
  · exact red_scale hk hb
/-- a triple in least terms -/
def Good (D : Int) (t : Int × Int × Int) : Prop := 1 ≤ t.2.2 ∧ gcdI (gcdI t.1 t.2.1) t.2.2 = 1 ∧ (t.2.1 = 0 ∨ ¬ Sq D)
theorem least_good {D x y b : Int} (hb : b ≠ 0) : Good D (least D x y b) := by
  unfold least
  by_cases h : rt D * rt D = D
  · rw [if_pos h]
    refine ⟨red_below hb, red_gcd hb, .inl ?_⟩
    unfold red
    exact Int.zero_fdiv (lsg (x + y * rt D) 0 b)
  · rw [if_neg h]
    exact ⟨red_below hb, red_gcd hb, .inr h⟩
theorem red_self {X Y B : Int} (hB : 1 ≤ B) (hg : gcdI (gcdI X Y) B = 1) : red X Y B = (X, Y, B) :=
  red_unique (s := 1) (by decide) hB hg (Int.one_mul _).symm (Int.one_mul _).symm (Int.one_mul _).symm
theorem least_self {D : Int} {t : Int × Int × Int} (h : Good D t) : least D t.1 t.2.1 t.2.2 = t := by
  obtain ⟨h1, h2, h3⟩ := h
  unfold least
  split
  · rename_i hs
    rcases h3 with h3 | h3
    · rw [h3] at h2 ⊢
      rw [Int.zero_mul, Int.add_zero, red_self h1 h2]
      exact Prod.ext rfl (Prod.ext h3.symm rfl)
    · exact absurd hs h3
  · rw [red_self h1 h2]
end Kx
namespace Kx
open PySem PySem.Spec PyProof.Rows L2
/-! ### kinds of values -/
def tyS (H : Hp) : V → Option String
  | .non => some "NoneType"
  | .bl _ => some "bool"
  | .int _ => some "int"
  | .str _ => some "str"
  | .ref a => match H a with
    | some (.lst _) => some "list"
    | some (.tup _) => some "tuple"
    | some (.dK _) => some "dict"
    | _ => none
  | _ => none
def isIntV : V → Bool
  | .int _ => true
  | _ => false
theorem tyS_of {K : PySem.W.Frag} {H : Hp} {x : V} {t : String} (h : tyS H x = some t) : TyX K H x (.type t) ∧ t ∈ ["NoneType", "bool", "int", "str", "list", "tuple", "dict"] ∧ (isIntV x = (t == "int")) := by
  cases x with
  | non => cases h; exact ⟨.base .non, by decide, (show false = ("NoneType" == "int") by decide)⟩
  | bl b => cases h; exact ⟨.base (.bl b), by decide, (show false = ("bool" == "int") by decide)⟩
  | int i => cases h; exact ⟨.base (.int i), by decide, (show true = ("int" == "int") by decide)⟩
  | str z => cases h; exact ⟨.base (.str z), by decide, (show false = ("str" == "int") by decide)⟩
  | byt _ => cases h
  | flt _ => cases h
  | ty _ => cases h
  | ref a =>
    have h2 : (match H a with | some (.lst _) => some "list" | some (.tup _) => some "tuple" | some (.dK _) => some "dict" | _ => none) = some t := h
    cases e : H a with
    | none => rw [e] at h2; cases h2
    | some o =>
      rw [e] at h2
      cases o with
      | lst xs => cases h2; exact ⟨.base (.lst e), by decide, (show false = ("list" == "int") by decide)⟩
      | tup xs => cases h2; exact ⟨.base (.tup e), by decide, (show false = ("tuple" == "int") by decide)⟩
      | dK kvs => cases h2; exact ⟨.base (.dK e), by decide, (show false = ("dict" == "int") by decide)⟩
      | _ => cases h2
theorem tyS_same {H H' : Hp} {x : V} {t : String} (s : Same H H') (h : tyS H x = some t) : tyS H' x = some t := by
  cases x with
  | ref a =>
    have h2 : (match H a with | some (.lst _) => some "list" | some (.tup _) => some "tuple" | some (.dK _) => some "dict" | _ => none) = some t := h
    show (match H' a with | some (.lst _) => some "list" | some (.tup _) => some "tuple" | some (.dK _) => some "dict" | _ => none) = some t
    cases e : H a with
    | none => rw [e] at h2; cases h2
    | some o => rw [s a o e]; rw [e] at h2; exact h2
  | _ => exact h
def OkItem (H : Hp) (x : V) : Prop := ∃ t, tyS H x = some t
theorem OkItem.same {H H' : Hp} {x : V} (h : OkItem H x) (s : Same H H') : OkItem H' x := let ⟨t, e⟩ := h; ⟨t, tyS_same s e⟩
/-- a value that the judging defs may be asked for -/
def OkV (H : Hp) (x : V) : Prop := OkItem H x ∧ ∀ a xs, x = .ref a → H a = some (.tup xs) → ∀ y ∈ xs, OkItem H y
def wholesB (H : Hp) (m : Int) : V → Bool
  | .ref a => match H a with
    | some (.tup xs) => decide ((xs.length : Int) = m) && xs.all isIntV
    | _ => false
  | _ => false
def spWhole : Sp := fun vs H Q _ => ∃ x, vs = [x] ∧ OkItem H x ∧ Q (.bl (isIntV x)) H
def spWholes : Sp := fun vs H Q _ => ∃ (x : V) (m : Int), vs = [x, .int m] ∧ m ≤ 1000 ∧ OkV H x ∧ ∀ H', Same H H' → Q (.bl (wholesB H m x)) H'
def measB : V → Bool
  | .int i => decide (5 ≤ i) && decide (i % 4 < 2)
  | _ => false
def spIsMeasure : Sp := fun vs H Q _ => ∃ x, vs = [x] ∧ OkItem H x ∧ Q (.bl (measB x)) H
def Meas (D : Int) : Prop := 5 ≤ D ∧ D % 4 < 2
/-- where the measure is one -/
def spCheckMeasure0 : Sp := fun vs H Q _ => ∃ D : Int, vs = [.int D] ∧ Meas D ∧ Q .non H
def spHasRoot : Sp := fun vs H Q _ => ∃ D : Int, vs = [.int D] ∧ 0 ≤ D ∧ D < 2 ^ 2000 ∧ Q (.bl (decide (Sq D))) H
def rootB (D : Int) (H : Hp) (x : V) : Bool := wholesB H 3 x && (match x with
  | .ref a => match H a with
    | some (.tup [.int x, .int y, .int b]) => decide (1 ≤ b) && (decide (gcdI (gcdI x y) b ≤ 1) && (decide (y = 0) || !decide (Sq D)))
    | _ => false
  | _ => false)
def spIsRootOf : Sp := fun vs H Q _ => ∃ (D : Int) (x : V), vs = [.int D, x] ∧ 0 ≤ D ∧ D < 2 ^ 2000 ∧ OkV H x ∧ ∀ H', Same H H' → Q (.bl (rootB D H x)) H'
def rootV (t : Int × Int × Int) : List V := [.int t.1, .int t.2.1, .int t.2.2]
/-- a root number stands at a -/
def RootAt (D : Int) (H : Hp) (a : Addr) (t : Int × Int × Int) : Prop := H a = some (.tup (rootV t)) ∧ Good D t
theorem RootAt.same {D : Int} {H H' : Hp} {a : Addr} {t : Int × Int × Int} (h : RootAt D H a t) (s : Same H H') : RootAt D H' a t := ⟨s _ _ h.1, h.2⟩
theorem RootAt.okV {D : Int} {H : Hp} {a : Addr} {t : Int × Int × Int} (h : RootAt D H a t) : OkV H (.ref a) := by
  refine ⟨⟨"tuple", ?_⟩, fun b xs e1 e2 y hy => ?_⟩
  · show (match H a with | some (.lst _) => some "list" | some (.tup _) => some "tuple" | some (.dK _) => some "dict" | _ => none) = some "tuple"
    rw [h.1]
  · cases e1
    rw [h.1] at e2
    cases e2
    simp only [rootV, List.mem_cons, List.not_mem_nil, or_false] at hy
    rcases hy with rfl | rfl | rfl <;> exact ⟨"int", rfl⟩
theorem RootAt.isRoot {D : Int} {H : Hp} {a : Addr} {t : Int × Int × Int} (h : RootAt D H a t) : rootB D H (.ref a) = true := by
  obtain ⟨h1, h2, h3, h4⟩ := h
  unfold rootB wholesB
  simp only [h1, rootV, List.length_cons, List.length_nil, List.all_cons, List.all_nil, isIntV]
  rw [decide_eq_true h2, decide_eq_true (show gcdI (gcdI t.1 t.2.1) t.2.2 ≤ 1 by omega)]
  rcases h4 with h4 | h4
  · rw [decide_eq_true h4]; rfl
  · rw [decide_eq_false h4]; simp
/-- where every item is a root number -/
def spCheck0 : Sp := fun vs H Q _ => ∃ (D : Int) (a : Addr) (rs : List Addr), vs = [.int D, .ref a] ∧ Meas D ∧ D < 2 ^ 2000 ∧ H a = some (.tup (rs.map V.ref)) ∧ (∀ r ∈ rs, ∃ t, RootAt D H r t) ∧ ∀ H', Same H H' → Q .non H'
def spSgn : Sp := fun vs H Q _ => ∃ x : Int, vs = [.int x] ∧ Q (.int (sgn x)) H
def spFlM : Sp := fun vs H Q _ => ∃ D y : Int, vs = [.int D, .int y] ∧ 0 < D ∧ D < 2 ^ 1000 ∧ -(2 ^ 1000) < y ∧ y < 2 ^ 1000 ∧ Q (.int (flM D y)) H
/-- no part is too large -/
def Small (t : Int × Int × Int) : Prop := t.1.natAbs < 2 ^ 900 ∧ t.2.1.natAbs < 2 ^ 900 ∧ t.2.2.natAbs < 2 ^ 900
def spRootSide : Sp := fun vs H Q _ => ∃ (D : Int) (a : Addr) (t : Int × Int × Int), vs = [.int D, .ref a] ∧ Meas D ∧ D < 2 ^ 500 ∧ RootAt D H a t ∧ Small t ∧ ∀ H', Same H H' → Q (.int (sideP D t.1 t.2.1)) H'
def spRootFloor : Sp := fun vs H Q _ => ∃ (D : Int) (a : Addr) (t : Int × Int × Int), vs = [.int D, .ref a] ∧ Meas D ∧ D < 2 ^ 500 ∧ RootAt D H a t ∧ Small t ∧ ∀ H', Same H H' → Q (.int ((t.1 + flM D t.2.1).fdiv t.2.2)) H'
/-! ### the law's own -/
def spMeasure : Sp := fun vs H Q _ => ∃ (g : Addr) (n : Int) (k : Nat), vs = [.ref g, .int n] ∧ GenAt H g k ∧ k ≤ 2 ^ 39 ∧ 1 ≤ n ∧ n ≤ 40 ∧ ∀ (D : Int) (H' : Hp), Meas D → D < 2 ^ 200 → GenAt H' g (k + 100) → Keep g H H' → Q (.int D) H'
def spLeast : Sp := fun vs H Q _ => ∃ D x y b : Int, vs = [.int D, .int x, .int y, .int b] ∧ 0 ≤ D ∧ D < 2 ^ 1000 ∧ x.natAbs < 2 ^ 2000 ∧ y.natAbs < 2 ^ 2000 ∧ b.natAbs < 2 ^ 2000 ∧ b ≠ 0 ∧ ∀ (p : Addr) (H' : Hp), H p = none → Same H H' → H' p = some (.tup (rootV (least D x y b))) → Q (.ref p) H'
def spSideF : Sp := fun vs H Q _ => ∃ D x y : Int, vs = [.int D, .int x, .int y] ∧ 0 ≤ D ∧ D < 2 ^ 1000 ∧ x.natAbs < 2 ^ 2450 ∧ y.natAbs < 2 ^ 1000 ∧ Q (.int (sideF D x y)) H
def spDrawn : Sp := fun vs H Q _ => ∃ (g : Addr) (D n : Int) (k : Nat), vs = [.ref g, .int D, .int n] ∧ GenAt H g k ∧ k ≤ 2 ^ 39 ∧ 0 ≤ D ∧ D < 2 ^ 500 ∧ 1 ≤ n ∧ n ≤ 40 ∧
  ∀ (x y b : Int) (p : Addr) (H' : Hp), x.natAbs < 2 ^ 150 → y.natAbs < 2 ^ 150 → 1 ≤ b → b < 2 ^ 150 → H p = none → H' p = some (.tup (rootV (least D x y b))) → GenAt H' g (k + 100) → Keep g H H' → Q (.ref p) H'
def spFloorRight : Sp := fun vs H Q _ => ∃ (D : Int) (a : Addr) (t : Int × Int × Int), vs = [.int D, .ref a] ∧ Meas D ∧ D < 2 ^ 500 ∧ RootAt D H a t ∧ Small t ∧ ∀ H', Same H H' → Q (.bl true) H'
theorem Keep.free {g p : Addr} {H H' : Hp} (k : Keep g H H') (hp : p ≠ g) (h : H' p = none) : H p = none := by
  cases e : H p with
  | none => rfl
  | some o =>
    rw [k p o hp e] at h
    cases h
theorem wholes_get {H : Hp} {m : Int} {x : V} (h : wholesB H m x = true) : ∃ a xs, x = .ref a ∧ H a = some (.tup xs) ∧ (xs.length : Int) = m ∧ xs.all isIntV = true := by
  cases x with
  | ref a =>
    have h2 : (match H a with | some (.tup xs) => decide ((xs.length : Int) = m) && xs.all isIntV | _ => false) = true := h
    cases e : H a with
    | none => rw [e] at h2; cases h2
    | some o =>
      rw [e] at h2
      cases o with
      | tup xs =>
        obtain ⟨p, q⟩ := Bool.and_eq_true_iff.mp h2
        exact ⟨a, xs, rfl, e, of_decide_eq_true p, q⟩
      | _ => cases h2
  | _ => cases h
theorem isInt_get {x : V} (h : isIntV x = true) : ∃ i, x = .int i := by
  cases x with
  | int i => exact ⟨i, rfl⟩
  | _ => cases h
theorem wholes3 {H : Hp} {x : V} (h : wholesB H 3 x = true) : ∃ a i j k, x = .ref a ∧ H a = some (.tup [.int i, .int j, .int k]) := by
  obtain ⟨a, xs, e, ha, hl, hall⟩ := wholes_get h
  have hl3 : xs.length = 3 := by omega
  match xs, hl3 with
  | [u, v, w'], _ =>
    simp only [List.all_cons, List.all_nil, Bool.and_true, Bool.and_eq_true] at hall
    obtain ⟨h1, h2, h3⟩ := hall
    obtain ⟨i, rfl⟩ := isInt_get h1
    obtain ⟨j, rfl⟩ := isInt_get h2
    obtain ⟨l, rfl⟩ := isInt_get h3
    exact ⟨a, i, j, l, e, ha⟩
theorem rootB3 {D : Int} {H : Hp} {a : Addr} {i j k : Int} (h : H a = some (.tup [.int i, .int j, .int k])) : rootB D H (.ref a) = (decide (1 ≤ k) && (decide (gcdI (gcdI i j) k ≤ 1) && (decide (j = 0) || !decide (Sq D)))) := by
  unfold rootB wholesB
  simp only [h, List.length_cons, List.length_nil, List.all_cons, List.all_nil, isIntV, Bool.and_self, Bool.and_true]
  rfl
theorem rootB_not {D : Int} {H : Hp} {x : V} (h : wholesB H 3 x = false) : rootB D H x = false := by
  unfold rootB
  rw [h, Bool.false_and]
theorem measB_int {i : Int} : measB (.int i) = (decide (5 ≤ i) && decide (i % 4 < 2)) := rfl
theorem rIsi_ty {K : PySem.W.Frag} {H : Hp} {x : V} {t c : String} {b : Bool} {Q : VK} (ht : tyS H x = some t) (hb : kitB t c = some b) (q : Q (.bl b) H) : rIsi K [x, .ty c] H Q :=
  ⟨x, .ty c, .type t, .type c, b, rfl, .ty c, (tyS_of ht).1, kit_ty hb, q⟩
theorem tyS_tuple {H : Hp} {x : V} (h : tyS H x = some "tuple") : ∃ a xs, x = .ref a ∧ H a = some (.tup xs) := by
  cases x with
  | ref a =>
    have h2 : (match H a with | some (.lst _) => some "list" | some (.tup _) => some "tuple" | some (.dK _) => some "dict" | _ => none) = some "tuple" := h
    cases e : H a with
    | none => rw [e] at h2; cases h2
    | some o =>
      rw [e] at h2
      cases o with
      | tup xs => exact ⟨a, xs, rfl, e⟩
      | lst xs => exact absurd (Option.some.inj h2) (by decide)
      | dK xs => exact absurd (Option.some.inj h2) (by decide)
      | _ => cases h2
  | non => exact absurd (Option.some.inj h) (by decide)
  | bl _ => exact absurd (Option.some.inj h) (by decide)
  | int _ => exact absurd (Option.some.inj h) (by decide)
  | str _ => exact absurd (Option.some.inj h) (by decide)
  | _ => cases h
theorem tyS_tup {H : Hp} {a : Addr} {xs : List V} (h : H a = some (.tup xs)) : tyS H (.ref a) = some "tuple" := by
  show (match H a with | some (.lst _) => some "list" | some (.tup _) => some "tuple" | some (.dK _) => some "dict" | _ => none) = some "tuple"
  rw [h]
theorem wholes_not {H : Hp} {m : Int} {x : V} {t : String} (h : tyS H x = some t) (ht : t ≠ "tuple") : wholesB H m x = false := by
  cases hw : wholesB H m x with
  | false => rfl
  | true =>
    obtain ⟨a, xs, rfl, ha, _⟩ := wholes_get hw
    rw [tyS_tup ha] at h
    exact absurd (Option.some.inj h).symm ht
theorem wholes_tup {H : Hp} {m : Int} {a : Addr} {xs : List V} (h : H a = some (.tup xs)) : wholesB H m (.ref a) = (decide ((xs.length : Int) = m) && xs.all isIntV) := by
  unfold wholesB
  simp only [h]
theorem any_tuple (K : PySem.W.Frag) {H : Hp} {x : V} (h : OkItem H x) : (∃ t, tyS H x = some t ∧ kitB t "tuple" = some false ∧ t ≠ "tuple") ∨ (∃ a xs, x = .ref a ∧ H a = some (.tup xs)) := by
  obtain ⟨t, ht⟩ := h
  have hm := (tyS_of (K := K) ht).2.1
  simp only [List.mem_cons, List.not_mem_nil, or_false] at hm
  rcases hm with rfl | rfl | rfl | rfl | rfl | rfl | rfl
  · exact .inl ⟨_, ht, by decide +kernel, by decide⟩
  · exact .inl ⟨_, ht, by decide +kernel, by decide⟩
  · exact .inl ⟨_, ht, by decide +kernel, by decide⟩
  · exact .inl ⟨_, ht, by decide +kernel, by decide⟩
  · exact .inl ⟨_, ht, by decide +kernel, by decide⟩
  · exact .inr (tyS_tuple ht)
  · exact .inl ⟨_, ht, by decide +kernel, by decide⟩
theorem rt_le {n : Int} (h : 0 ≤ n) : 0 ≤ rt n ∧ rt n ≤ n := by
  obtain ⟨s0, s1, s2⟩ := rt_spec h
  refine ⟨s0, ?_⟩
  by_cases h : rt n ≤ 0
  · omega
  · have := Int.mul_le_mul_of_nonneg_right (show 1 ≤ rt n by omega) s0
    omega
theorem ediv_size {x b : Int} (h : 1 ≤ b) : (x / b).natAbs ≤ x.natAbs + 1 := by
  have h1 := Int.emod_nonneg x (show b ≠ 0 by omega)
  have h2 := Int.emod_lt_of_pos x (show 0 < b by omega)
  have h3 := Int.mul_ediv_add_emod x b
  by_cases hx : 0 ≤ x
  · have h4 := Int.ediv_nonneg hx (show 0 ≤ b by omega)
    have h5 := Int.ediv_le_self b hx
    omega
  · have hq : x / b ≤ -1 := by
      by_cases h : x / b ≤ -1
      · exact h
      · have := Int.mul_nonneg (show 0 ≤ b by omega) (show 0 ≤ x / b by omega)
        omega
    have h6 := Int.mul_le_mul_of_nonpos_right h (show x / b + 1 ≤ 0 by omega)
    rw [Int.mul_add, Int.mul_one] at h6
    omega
theorem flat_int {i : Int} (h : i.natAbs < 2 ^ 1900) : flatText (.int i) = some (toString i : Str) := by
  have h2 : i.natAbs.log2 < 1920 := Nat.lt_of_lt_of_le (PySem.Flt.log2_lt_of (by decide) h) (by decide)
  show (if i.natAbs.log2 < 1920 then some (toString i : Str) else none) = _
  rw [if_pos h2]
theorem sideF_small (D x y : Int) : (sideF D x y).natAbs ≤ 1 := by
  unfold sideF
  repeat' split
  all_goals decide
theorem least_small {D x y b : Int} (h0 : 0 ≤ D) (h1 : D < 2 ^ 200) (hx : x.natAbs < 2 ^ 600) (hy : y.natAbs < 2 ^ 600) (hb : b.natAbs < 2 ^ 600) (hb0 : b ≠ 0) : Small (least D x y b) := by
  obtain ⟨r0, r1⟩ := rt_le h0
  unfold least Small
  split
  · have w1 : (y * rt D).natAbs < 2 ^ (600 + 200) := wide_lt hy (by omega)
    simp only [Nat.reduceAdd] at w1
    obtain ⟨p, q, r⟩ := red_size (x := x + y * rt D) (y := 0) hb0
    exact ⟨by omega, by omega, by omega⟩
  · obtain ⟨p, q, r⟩ := red_size (x := x) (y := y) hb0
    exact ⟨by omega, by omega, by omega⟩
theorem RootAt.least {D x y b : Int} {H : Hp} {a : Addr} (h : H a = some (.tup (rootV (least D x y b)))) (hb0 : b ≠ 0) : RootAt D H a (least D x y b) := ⟨h, least_good hb0⟩
/-- behind all draws: what stood stands, a generator apart -/
def spRight (K : PySem.W.Frag) : Sp := fun vs H Q _ => ∃ g : Addr, vs = [.ref g] ∧ GenAt H g 100000 ∧ ∀ H', Keep g H H' → Q (.bl true) H'
def spLaw (K : PySem.W.Frag) : Sp := fun vs H Q _ => ∃ (a : Addr) (ns : List Int), vs = [.ref a] ∧ SqL K H a (ns.map V.int) ∧ ns.length ≤ 63 ∧ ∀ H', Q (.bl true) H'

theorem dpAll_ints {K : PySem.W.Frag} {H : Hp} : ∀ ns : List Int, DpAll K H (ns.map V.int) (ns.map PyData.int)
  | [] => .nil
  | n :: ns => .cons (.int n) (dpAll_ints ns)
theorem dp_ints {K : PySem.W.Frag} {H : Hp} {a : Addr} {ns : List Int} (h : H a = some (.lst (ns.map V.int))) : Dp K H (.ref a) (.list (ns.map PyData.int)) := .lst (SqL.of h) (dpAll_ints ns)
theorem eqv_same {d : PyData} (h : SeqAt.shaped d = true) : PyData.eqv d d = true := SeqAt.eqv_refl d (SeqAt.canLay_of_shaped h)
/-- two lists of the same ints -/
theorem ne_ints {K : PySem.W.Frag} {H : Hp} {a b : Addr} {Q : VK} (ns : List Int) (h1 : H a = some (.lst (ns.map V.int))) (h2 : H b = some (.lst (ns.map V.int))) (hs : SeqAt.shaped (.list (ns.map PyData.int)) = true) (q : Q (.bl false) H) : rNeD K (.ref a) (.ref b) H Q :=
  ⟨_, _, dp_ints h1, dp_ints h2, hs, hs, by rw [eqv_same hs]; exact q⟩
theorem eq_ints {K : PySem.W.Frag} {H : Hp} {a b : Addr} {Q : VK} (ns : List Int) (h1 : H a = some (.lst (ns.map V.int))) (h2 : H b = some (.lst (ns.map V.int))) (hs : SeqAt.shaped (.list (ns.map PyData.int)) = true) (q : Q (.bl true) H) : rEqD K (.ref a) (.ref b) H Q :=
  ⟨_, _, dp_ints h1, dp_ints h2, hs, hs, by rw [eqv_same hs]; exact q⟩
theorem ne_new {H : Hp} {p q : Addr} {o : HO} (h : upd H p o q = none) : p ≠ q := fun z => by
  rw [← z, upd_same] at h
  cases h
end Kx

set_option Elab.async false
set_option linter.all false
set_option maxRecDepth 100000
set_option maxHeartbeats 4000000
set_option exponentiation.threshold 4000
/-! Defs that ask for the repr of data: no repr is under way around them. -/
namespace Kx
open PySem PySem.Spec PyProof.Rows L2

structure FnG (P : Program) (w : World) (K : PySem.W.Frag) (mg : Str → Option Value) (base : Heap) (k : Nat) (f : Addr) (fd : FuncData) (ps : List Str) (sp : Sp) : Prop where
  len : ∀ vs H Q E, sp vs H Q E → vs.length = ps.length
  run : ∀ (A : Around) (outer : List Env) (s : Shared) (H : Hp) (args : Args) (us : List Value) (vs : List V) (Q : VK) (E : XK), A.guards = some [] → Room k A → Env0 P w K mg base A outer s H → BindsTo s fd args (ps.zip us) → Vals vs us → sp vs H Q E →
    codeAny (model P w) A (.call (.ref f) args) (CR CX0 outer P w H s Q E) s
theorem FnG.of {P : Program} {w : World} {K : PySem.W.Frag} {mg : Str → Option Value} {base : Heap} {k : Nat} {f : Addr} {fd : FuncData} {ps : List Str} {sp : Sp} (F : FnOk P w K mg base CX0 k f fd ps sp) : FnG P w K mg base k f fd ps sp :=
  ⟨F.len, fun A outer s H args us vs Q E _ => F.run A outer s H args us vs Q E⟩
section
variable {P : Program} {w : World} {K : PySem.W.Frag} {mg : Str → Option Value} {base : Heap}
/-- a def by its body, which may lean on the guards -/
theorem fnG_mk {x qual : Str} {st : Stmt} {f : Addr} {fd : FuncData} {N ps : List Str} {k : Nat} {sp : Sp} (F : Fun K x qual st f fd) (S : FnScope N ps (defScope st)) (hlen : ∀ vs H Q E, sp vs H Q E → vs.length = ps.length)
    (body : ∀ (cdv : Value) (A : Around) (outer : List Env) (s : Shared) (H : Hp) (vs : List V) (Q : VK) (E : XK), (A.deeper (envOfC qual (defScope st) s.heap.objs.size f cdv)).guards = some [] → Room k (A.deeper (envOfC qual (defScope st) s.heap.objs.size f cdv)) → sp vs H Q E →
      ∃ t, PSs (cxOf CX0 P w K mg base N qual (defScope st) f cdv A outer s H E).nox (defBody st) t ∧ t { nx := fun _ H' => Q .non H', rt := Q } (L2.start N vs) H) : FnG P w K mg base (k + 1) f fd ps sp := by
  obtain ⟨cls0, dct0, kwd0, doc0, mod0, ann0, cdv, typ0, slots0, rfl, look, code⟩ := F.ex
  constructor
  · exact hlen
  · intro A outer s H args us vs Q E gd room e0 binds rel hsp
    have ln := hlen _ _ _ _ hsp
    have kept : ∀ b o, base.get? b = some o → s.heap.get? b = some o := fun b o z => (e0.bs b o z).1
    have kin := e0.mod.kin.keeps kept
    have kinds : ∀ y ∈ ps.zip us, (defScope st).names.lookup y.1 = some .local ∨ ((defScope st).names.lookup y.1 = some .cell ∧ ((cellsFrom (s.heap.objs.size + 1) (defScope st).names []).lookup y.1).isSome = true) := by
      rintro ⟨nm, vl⟩ hy
      rcases S.par nm (List.of_mem_zip hy).1 with h | h
      · left; exact h
      · right; exact ⟨h, PySem.W.cellsFrom_some _ _ _ (.inl h)⟩
    apply codeAny_call_function room.depth (kin _ _ look) rfl S.co S.gen rfl (PySem.W.codeRec_of kin code)
    apply binds
    refine wpAny_newFunctionEnv_cells S.kind kinds fun env henv s1 ic => ?_
    subst henv
    refine ⟨(e0.mod.nolimit.keeps kept).keeps ic.toInCall.keep, codeAny_func ?_⟩
    obtain ⟨t, der, rd⟩ := body cdv A outer s H vs Q E gd (room.deeper _) hsp
    have inv0 : Inv (cxOf CX0 P w K mg base N qual (defScope st) f cdv A outer s H E) [] (L2.start N vs) H s1 := inv_start S room.hd e0 ln rel ic
    have back : ∀ {σ1 : SV} {H1 : Hp} {s2 : Shared} {v : V} {u : Value}, Inv (cxOf CX0 P w K mg base N qual (defScope st) f cdv A outer s H E) [] σ1 H1 s2 → RelV v u → Q v H1 → CE outer P w H s Q u s2 := by
      intro σ1 H1 s2 v u J rv q
      exact ⟨v, H1, J.os, J.bare, J.base, J.hok, rv, q⟩
    refine wpAny_mono (der.nox.run [] s1 (L2.start N vs) H _ inv0 rd) (fun fl s2 hs => ?_) fun e s2 hs => hs
    cases fl with
    | ret u => exact let ⟨v, σ1, H1, J, rv, q⟩ := hs; back J rv q
    | next => exact let ⟨σ1, H1, J, q⟩ := hs; back (v := V.non) (u := Value.none) J rfl q
    | brk => exact let ⟨_, _, _, q⟩ := hs; q.elim
    | cont => exact let ⟨_, _, _, q⟩ := hs; q.elim
end
structure DefG (P : Program) (w : World) (K : PySem.W.Frag) (mg : Str → Option Value) (base : Heap) (k : Nat) (x : Str) (f : Addr) (fd : FuncData) (ps : List Str) (sp : Sp) : Prop where
  F : FnG P w K mg base k f fd ps sp
  m : mg x = some (.ref f)
  kp : PySem.W.keepIn K (.ref f) = true
  b : Binds K fd ps []
section
variable {X : Cx} {k j : Nat} {f : Addr} {fd : FuncData} {ps ks : List Str} {sp : Sp} {x : Str} {p pos : Pos} {e : Expr} {es : List Expr} {t tk : TA} {kws : List Keyword}
theorem pe_g (D : DefG X.prog X.w X.K X.mg X.base k x f fd ps sp) (gd : X.A.guards = some []) (hr : Room j X.A) (ha : PA X (e :: es) t) (hkj : k ≤ j := by decide) (hg : Gl X x := by rfl) (hdb : (x == ("__debug__" : Str)) = false := by decide)
    (he : starEach (e :: es) X.env = (false, eval e X.env) :: starEach es X.env := by rfl) (hpl : (backTo pos (starEach es X.env)).any (·.1) = false := by rfl) : PE X (.Call (.Name x p) (e :: es) [] pos) (tD sp t) := by
  refine ⟨fun pins s σ H Q I h => wpAny_Call_Name_kw (ld_glob I hg D.m ?_ hdb)⟩
  refine PySem.W.callWith_K (h₀ := X.base) I.ok.mod.kin D.kp (thn (ha.run pos pins s σ H _ I h) fun us s1 ⟨vs, H1, I1, r, q⟩ => ⟨I1.kIn, ?_⟩) he hpl
  have hl : us.length = ps.length := r.length.symm.trans (D.F.len _ _ _ _ q)
  have hb := D.b s1 us I1.kIn (by rw [List.append_nil]; exact hl)
  rw [List.append_nil] at hb
  refine wpAny_call (codeAny_mono (D.F.run X.A X.stack s1 H1 ⟨us, []⟩ us vs Q E0 gd (hr.mono hkj) I1.env0 hb r q) fun rr s2 hq => ?_)
  cases rr with
  | error er => exact (hq : False).elim
  | ok fl =>
    cases fl with
    | ret u => exact I1.after hq
    | next => exact False.elim hq
    | brk => exact False.elim hq
    | cont => exact False.elim hq
end
/-- repr of data -/
theorem cr_reprD {X : Cx} (gd : X.A.guards = some []) (hu : X.A.units + 64 < cLine) : CallR X (.builtin "repr") (fun vs H Q => ∃ (x : V) (d : PyData), vs = [x] ∧ Dp X.K H x d ∧ d.showable = true ∧ d.hasDict = false ∧ d.depth ≤ 60 ∧ d.shown.length ≤ sizeLine ∧ Q (.str d.shown) H) := by
  intro pins s σ H vs us Q I r h
  obtain ⟨x, d, rfl, hd, h1, h2, h3, h4, q⟩ := h
  obtain ⟨u, rfl, rx⟩ := vals1 r
  cases x with
  | ref a =>
    cases rx
    obtain ⟨as, rd⟩ := Dp.reads I d (.ref a) (.ref a) hd rfl
    exact repr_of_reads' rd h1 (PyData.noDict_hsm h2) gd (by omega) (fun _ _ z => z) (fun h' t tk hk => ⟨.str d.shown, H, I.kept hk, ⟨_, rfl⟩, q⟩) h4
  | int i =>
    cases hd
    obtain ⟨t, rfl⟩ := rx
    exact PySem.P.repr_of_int (by simpa [PyData.showable] using h1) ⟨.str _, H, I.tok _, ⟨_, rfl⟩, by simpa only [PyData.shown] using q⟩
  | bl b =>
    cases hd
    cases rx
    exact PySem.P.repr_of_bool ⟨.str _, H, I.tok _, ⟨_, rfl⟩, by simpa only [PyData.shown] using q⟩
  | non =>
    cases hd
    cases rx
    exact PySem.P.repr_of_none ⟨.str _, H, I.tok _, ⟨_, rfl⟩, by simpa only [PyData.shown] using q⟩
  | str z =>
    cases hd
    obtain ⟨t, rfl⟩ := rx
    exact PySem.P.repr_of_str ⟨.str _, H, I.tok _, ⟨_, rfl⟩, by simpa only [PyData.shown] using q⟩ (by simpa only [PyData.shown] using h4)
  | _ => cases hd
end Kx
namespace Kx
open PySem PySem.Spec PyProof.Rows L2
section
variable {P : Program} {w : World} {K : PySem.W.Frag} {mg mb : Str → Option Value} {k : Nat} {fa a : Addr} {fd : FuncData} {x : Str} {sp : Sp} {s₁ : Shared} {vs : List Value} {ns : List Int}
/-- the law's def at a heap in which nothing but the script is tracked -/
theorem lawG_at (kin : K.In s₁.heap) (gl : s₁.heap.Ns mainGlobals mg) (bl : s₁.heap.Ns builtinsNs mb) (bb : ∀ x : Str, x ≠ "__name__" → mb x = bootBuiltins x) (lim : s₁.heap.NoLimit) (gens : s₁.gens = #[])
    (sc : s₁.heap.get? a = some { cls := .type "list", data := .seq vs.toArray }) (hr : Room k callerA)
    (F : ∀ base : Heap, K.In base → base.Ns mainGlobals mg → FnG P w K mg base k fa fd [x] sp) (bind : ∀ (s : Shared) (u : Value), BindsTo s fd ⟨[u], []⟩ [(x, u)])
    (H : Hp) (only : Only H) (ok : HOk P w H s₁.heap) (lone : ∀ b, H b ≠ none → b = a) (notK : H a ≠ none → K.lookup a = none) (want : sp [.ref a] H (fun v _ => v = .bl true) E0) :
    codeAny (model P w) callerA (.call (.ref fa) ⟨[.ref a], []⟩) (fun r s' => r = .ok (.ret (.bool true)) ∧ OldK s₁.heap s'.heap ∧ s'.os = s₁.os ∧ AllBare s'.gens) s₁ := by
  have free : ∀ {b : Addr}, b ≠ a → H b = none := fun {b} hb => by
    cases q : H b with
    | none => rfl
    | some u => exact (hb (lone b (by rw [q]; exact Option.some_ne_none u))).elim
  have dictFree : ∀ {b : Addr} {o : Obj} {es : Array DictEntry} {ep : Nat}, s₁.heap.get? b = some o → o.data = .dict es ep → H b = none := fun {b o es ep} e d => by
    by_cases hb : b = a
    · subst hb
      rw [sc] at e
      cases e
      exact absurd d (fun z => by cases z)
    · exact free hb
  have kNs : ∀ {b : Addr} {m : Str → Option Value}, s₁.heap.Ns b m → (hidT s₁.heap H).Ns b m := by
    rintro b m ⟨o, es, ep, e, d, r⟩
    exact ⟨o, es, ep, hidT_get e (dictFree e d), d, r⟩
  have kFree : ∀ b o, K.lookup b = some o → H b = none := fun b o e => by
    by_cases hb : b = a
    · subst hb
      cases q : H b with
      | none => rfl
      | some u =>
        rw [notK (by rw [q]; exact Option.some_ne_none u)] at e
        cases e
    · exact free hb
  have kinB : K.In (hidT s₁.heap H) := fun b o e => hidT_get (kin b o e) (kFree b o e)
  have modB : Mod K mg (hidT s₁.heap H) := ⟨kinB, kNs gl, ⟨mb, kNs bl, bb⟩, by
    obtain ⟨mc, l1, l2⟩ := lim
    exact ⟨mc, kNs l1, l2⟩⟩
  have entry : Env0 P w K mg (hidT s₁.heap H) callerA [] s₁ H :=
    { frames := rfl, mod := modB, bs := fun b o e => of_hidT e, bsz := Nat.le_of_eq (hidT_size _ _), funs := trivial, frf := fun b hb => (by cases hb), hok := ok, bare := .of_eq gens }
  have go := (F _ kinB (kNs gl)).run callerA [] s₁ H ⟨[.ref a], []⟩ [.ref a] [.ref a] (fun v _ => v = .bl true) E0 rfl hr entry (bind s₁ (.ref a)) (.cons rfl .nil) want
  refine codeAny_mono go fun r s' h => ?_
  match r, h with
  | .error _, h => exact (h : False).elim
  | .ok .next, h => exact (h : False).elim
  | .ok .brk, h => exact (h : False).elim
  | .ok .cont, h => exact (h : False).elim
  | .ok (.ret u), h =>
    obtain ⟨v, H1, os, bare, un, ok1, rel, q⟩ := h
    have q1 : v = .bl true := q
    rw [q1] at rel
    have ru : u = Value.bool true := rel
    rw [ru]
    refine ⟨rfl, OldK.of_keep fun b o e => ?_, os, bare⟩
    cases hb : H b with
    | none => exact un.keep b o e hb (fun z => by cases z) (fun z => by cases z)
    | some t =>
      rcases only b with z | ⟨ob, xs, z⟩
      · rw [hb] at z; cases z
      · have e1 := (ok b _ z).1
        rw [e] at e1
        cases e1
        exact (ok1 b _ (un.frzs b _ _ z)).1
theorem lawG (kin : K.In s₁.heap) (gl : s₁.heap.Ns mainGlobals mg) (bl : s₁.heap.Ns builtinsNs mb) (bb : ∀ x : Str, x ≠ "__name__" → mb x = bootBuiltins x) (lim : s₁.heap.NoLimit) (gens : s₁.gens = #[])
    (sc : s₁.heap.get? a = some { cls := .type "list", data := .seq vs.toArray }) (hints : IntsAre vs ns) (hl : ns.length ≤ sizeLine) (hr : Room k callerA)
    (F : ∀ base : Heap, K.In base → base.Ns mainGlobals mg → FnG P w K mg base k fa fd [x] sp) (bind : ∀ (s : Shared) (u : Value), BindsTo s fd ⟨[u], []⟩ [(x, u)])
    (want : ∀ H : Hp, Only H → SqL K H a (ns.map V.int) → sp [.ref a] H (fun v _ => v = .bl true) E0) :
    codeAny (model P w) callerA (.call (.ref fa) ⟨[.ref a], []⟩) (fun r s' => r = .ok (.ret (.bool true)) ∧ OldK s₁.heap s'.heap ∧ s'.os = s₁.os ∧ AllBare s'.gens) s₁ := by
  have rv := vals_ints hints
  have lenV := hints.length
  cases hk : K.lookup a with
  | some o =>
    have e := kin a o hk
    rw [sc] at e
    cases e
    have on : Only (fun _ => none) := fun _ => .inl rfl
    refine lawG_at kin gl bl bb lim gens sc hr F bind (fun _ => none) on (fun b u z => by cases z) (fun b z => (z rfl).elim) (fun z => (z rfl).elim) (want _ on ?_)
    exact .inr ⟨_, vs.toArray, _, hk, rfl, rfl, rfl, by rw [List.size_toArray, lenV]; exact hl, by simpa using rv⟩
  | none =>
    have on : Only (fun b => if b = a then some (.frz { cls := .type "list", data := .seq vs.toArray } (.lst (ns.map V.int))) else none) := fun b => by
      by_cases hb : b = a
      · exact .inr ⟨_, _, if_pos hb⟩
      · exact .inl (if_neg hb)
    refine lawG_at kin gl bl bb lim gens sc hr F bind _ on (fun b u z => ?_) (fun b z => ?_) (fun _ => hk) (want _ on (.inl (.inr ⟨_, if_pos rfl⟩)))
    · by_cases hb : b = a
      · have z1 := (if_pos hb).symm.trans z
        cases z1
        rw [hb]
        exact ⟨sc, by rw [List.length_map]; exact hl, vs, _, rv, sc⟩
      · have z1 := (if_neg hb).symm.trans z
        cases z1
    · by_cases hb : b = a
      · exact hb
      · exact (z (if_neg hb)).elim
end
theorem walkG {l : PySem.W.OpenLaw} {n k : Nat} {q : Program} {loose : List Str} {XP : (Str → Option Value) → Heap → Prop} {YP : World → Heap → Prop} {d : DefRec} {K : Params → PySem.W.Frag} {sp : World → Sp} {x : Str}
    (hn : l.most = some n) (hn2 : n ≤ sizeLine) (hdf : d.params.defaults = []) (hr : Room k callerA) (hY : ∀ (w : World) (h : Heap), YP w h → (K w.params).In h)
    (F : ∀ (w : World) (mg : Str → Option Value) (fa : Addr) (h : Heap), (K w.params).In h → h.Ns mainGlobals mg → mg d.name = some (.ref fa) →
      ∃ fd : FuncData, (∀ (s : Shared) (u : Value), BindsTo s fd ⟨[u], []⟩ [(x, u)]) ∧ ∀ base : Heap, (K w.params).In base → base.Ns mainGlobals mg → FnG l.prog w (K w.params) mg base k fa fd [x] (sp w))
    (want : ∀ (w : World) (H : Hp) (a : Addr) (ns : List Int), ns.length ≤ n → Only H → SqL (K w.params) H a (ns.map V.int) → sp w [.ref a] H (fun v _ => v = .bl true) E0) :
    PySem.W.WalkO q loose XP YP l.row.toRowW d [] (fun f vs => PySem.call f vs) := by
  apply Att.attach_call hn hdf
  intro w s₀ s₁ mg mb fa o pm cd doc a vs ns G Y ho hd hcd hmg hobj hints hlen hg
  obtain ⟨fd, hb, hF⟩ := F w mg fa _ (hY w _ Y) G.T.g hmg
  exact lawG (hY w _ Y) G.T.g G.T.b G.T.builtins G.T.nolimit hg hobj hints (Nat.le_trans hlen hn2) hr hF hb (fun H hO hS => want w H a ns hlen hO hS)
end Kx

set_option Elab.async false
set_option linter.all false
set_option maxRecDepth 100000
set_option maxHeartbeats 4000000
set_option exponentiation.threshold 4000
/-! The reckoning of root numbers. -/
namespace Kx
open PySem
theorem least_red {D x y b : Int} (h : Sq D → y = 0) : least D x y b = red x y b := by
  unfold least
  split
  · rename_i hs
    rw [h hs, Int.zero_mul, Int.add_zero]
  · rfl
def plusT (D s : Int) (t u : Int × Int × Int) : Int × Int × Int := least D (t.1 * u.2.2 + s * u.1 * t.2.2) (t.2.1 * u.2.2 + s * u.2.1 * t.2.2) (t.2.2 * u.2.2)
def timesT (D : Int) (t u : Int × Int × Int) : Int × Int × Int := least D (t.1 * u.1 + D * t.2.1 * u.2.1) (t.1 * u.2.1 + t.2.1 * u.1) (t.2.2 * u.2.2)
def normT (D : Int) (u : Int × Int × Int) : Int := u.1 * u.1 - D * u.2.1 * u.2.1
def invT (D : Int) (u : Int × Int × Int) : Int × Int × Int := least D (u.2.2 * u.1) (-u.2.2 * u.2.1) (normT D u)
theorem Good.flat {D : Int} {t : Int × Int × Int} (h : Good D t) (s : Sq D) : t.2.1 = 0 := by
  rcases h.2.2 with h | h
  · exact h
  · exact absurd s h
theorem mul_ne {a b : Int} (h : a ≠ 0) (h2 : b ≠ 0) : a * b ≠ 0 := Int.mul_ne_zero h h2
theorem below_ne {D : Int} {t : Int × Int × Int} (h : Good D t) : t.2.2 ≠ 0 := by have := h.1; omega
theorem plus_good {D s : Int} {t u : Int × Int × Int} (ht : Good D t) (hu : Good D u) : Good D (plusT D s t u) := least_good (mul_ne (below_ne ht) (below_ne hu))
theorem times_good {D : Int} {t u : Int × Int × Int} (ht : Good D t) (hu : Good D u) : Good D (timesT D t u) := least_good (mul_ne (below_ne ht) (below_ne hu))
theorem norm_ne {D : Int} {u : Int × Int × Int} (h0 : 0 ≤ D) (hu : Good D u) (hz : ¬ (u.1 = 0 ∧ u.2.1 = 0)) : normT D u ≠ 0 := fun e => by
  unfold normT at e
  by_cases hy : u.2.1 = 0
  · rw [hy] at e
    have h1 : u.1 ≠ 0 := fun z => hz ⟨z, hy⟩
    have h2 := xx_pos h1
    rw [Int.mul_zero] at e
    omega
  · rcases hu.2.2 with h | h
    · exact hy h
    · exact h (sq_of (x := u.1) h0 hy (by omega))
theorem plus_red {D s : Int} {t u : Int × Int × Int} (ht : Good D t) (hu : Good D u) : plusT D s t u = red (t.1 * u.2.2 + s * u.1 * t.2.2) (t.2.1 * u.2.2 + s * u.2.1 * t.2.2) (t.2.2 * u.2.2) :=
  least_red fun h => by rw [ht.flat h, hu.flat h, Int.zero_mul, Int.mul_zero, Int.zero_mul]; rfl
theorem times_red {D : Int} {t u : Int × Int × Int} (ht : Good D t) (hu : Good D u) : timesT D t u = red (t.1 * u.1 + D * t.2.1 * u.2.1) (t.1 * u.2.1 + t.2.1 * u.1) (t.2.2 * u.2.2) :=
  least_red fun h => by rw [ht.flat h, hu.flat h, Int.zero_mul, Int.mul_zero]; rfl
theorem inv_red {D : Int} {u : Int × Int × Int} (hu : Good D u) : invT D u = red (u.2.2 * u.1) (-u.2.2 * u.2.1) (normT D u) :=
  least_red fun h => by rw [hu.flat h, Int.mul_zero]
theorem inv_good {D : Int} {u : Int × Int × Int} (h0 : 0 ≤ D) (hu : Good D u) (hz : ¬ (u.1 = 0 ∧ u.2.1 = 0)) : Good D (invT D u) := least_good (norm_ne h0 hu hz)
theorem ringA (a3 p a1 P1 D a2 P2 : Int) : a3 * p * (a1 * P1 + D * a2 * P2) = a3 * (a1 * (p * P1) + D * a2 * (p * P2)) := by grind
theorem ringB (u v U1 V3 V1 U3 : Int) : u * v * (U1 * V3 + 1 * V1 * U3) = (u * U1) * (v * V3) + 1 * (v * V1) * (u * U3) := by grind
theorem ringC (a1 a2 a3 b1 b2 b3 c1 c2 c3 D : Int) : a3 * (a1 * (b1 * c3 + 1 * c1 * b3) + D * a2 * (b2 * c3 + 1 * c2 * b3)) = (a1 * b1 + D * a2 * b2) * (a3 * c3) + 1 * (a1 * c1 + D * a2 * c2) * (a3 * b3) := by grind
theorem ringD (a3 p a1 P1 a2 P2 : Int) : a3 * p * (a1 * P2 + a2 * P1) = a3 * (a1 * (p * P2) + a2 * (p * P1)) := by grind
theorem ringE (a1 a2 a3 b1 b2 b3 c1 c2 c3 : Int) : a3 * (a1 * (b2 * c3 + 1 * c2 * b3) + a2 * (b1 * c3 + 1 * c1 * b3)) = (a1 * b2 + a2 * b1) * (a3 * c3) + 1 * (a1 * c2 + a2 * c1) * (a3 * b3) := by grind
theorem ringF (a3 p P3 : Int) : a3 * p * (a3 * P3) = a3 * (a3 * (p * P3)) := by grind
theorem ringG (u v U3 V3 : Int) : u * v * (U3 * V3) = (u * U3) * (v * V3) := by grind
theorem ringH (a3 b3 c3 : Int) : a3 * (a3 * (b3 * c3)) = (a3 * b3) * (a3 * c3) := by grind
theorem ringI (q i T1 b1 D T2 b2 : Int) : q * i * (T1 * b1 + D * T2 * b2) = i * (b1 * (q * T1) + D * b2 * (q * T2)) := by grind
theorem ringJ (i a1 I1 D a2 I2 b1 b2 : Int) : i * (b1 * (a1 * I1 + D * a2 * I2) + D * b2 * (a1 * I2 + a2 * I1)) = b1 * (a1 * (i * I1) + D * a2 * (i * I2)) + D * b2 * (a1 * (i * I2) + a2 * (i * I1)) := by grind
theorem ringK (a1 a2 b1 b2 b3 D : Int) : b1 * (a1 * (b3 * b1) + D * a2 * (-b3 * b2)) + D * b2 * (a1 * (-b3 * b2) + a2 * (b3 * b1)) = b3 * (b1 * b1 - D * b2 * b2) * a1 := by grind
theorem ringL (q i T1 b1 T2 b2 : Int) : q * i * (T1 * b2 + T2 * b1) = i * (b2 * (q * T1) + b1 * (q * T2)) := by grind
theorem ringM (i a1 I1 D a2 I2 b1 b2 : Int) : i * (b2 * (a1 * I1 + D * a2 * I2) + b1 * (a1 * I2 + a2 * I1)) = b2 * (a1 * (i * I1) + D * a2 * (i * I2)) + b1 * (a1 * (i * I2) + a2 * (i * I1)) := by grind
theorem ringN (a1 a2 b1 b2 b3 D : Int) : b2 * (a1 * (b3 * b1) + D * a2 * (-b3 * b2)) + b1 * (a1 * (-b3 * b2) + a2 * (b3 * b1)) = b3 * (b1 * b1 - D * b2 * b2) * a2 := by grind
theorem ringO (q i T3 b3 : Int) : q * i * (T3 * b3) = i * b3 * (q * T3) := by grind
theorem ringP (i a3 I3 b3 : Int) : i * b3 * (a3 * I3) = b3 * (i * I3) * a3 := by grind
theorem ringQ (q i U1 I1 D U2 I2 : Int) : q * i * (U1 * I1 + D * U2 * I2) = (q * U1) * (i * I1) + D * (q * U2) * (i * I2) := by grind
theorem ringR (a1 a2 b1 b2 b3 D : Int) : (a1 * b1 + D * a2 * b2) * (b3 * b1) + D * (a1 * b2 + a2 * b1) * (-b3 * b2) = b3 * (b1 * b1 - D * b2 * b2) * a1 := by grind
theorem ringS (q i U1 I1 U2 I2 : Int) : q * i * (U1 * I2 + U2 * I1) = (q * U1) * (i * I2) + (q * U2) * (i * I1) := by grind
theorem ringT (a1 a2 b1 b2 b3 D : Int) : (a1 * b1 + D * a2 * b2) * (-b3 * b2) + (a1 * b2 + a2 * b1) * (b3 * b1) = b3 * (b1 * b1 - D * b2 * b2) * a2 := by grind
theorem ringU (a3 b3 n : Int) : (a3 * b3) * n = b3 * n * a3 := by grind
/-- the sum's product is the products' sum -/
theorem distrib {D : Int} {a b c : Int × Int × Int} (ha : Good D a) (hb : Good D b) (hc : Good D c) : timesT D a (plusT D 1 b c) = plusT D 1 (timesT D a b) (timesT D a c) := by
  have na := below_ne ha
  have nb := below_ne hb
  have nc := below_ne hc
  have gP : Good D (plusT D 1 b c) := plus_good hb hc
  have gU : Good D (timesT D a b) := times_good ha hb
  have gV : Good D (timesT D a c) := times_good ha hc
  rw [times_red ha gP, plus_red gU gV]
  obtain ⟨p1, p2, p3⟩ := red_mul (x := b.1 * c.2.2 + 1 * c.1 * b.2.2) (y := b.2.1 * c.2.2 + 1 * c.2.1 * b.2.2) (mul_ne nb nc)
  obtain ⟨u1, u2, u3⟩ := red_mul (x := a.1 * b.1 + D * a.2.1 * b.2.1) (y := a.1 * b.2.1 + a.2.1 * b.1) (mul_ne na nb)
  obtain ⟨v1, v2, v3⟩ := red_mul (x := a.1 * c.1 + D * a.2.1 * c.2.1) (y := a.1 * c.2.1 + a.2.1 * c.1) (mul_ne na nc)
  rw [← plus_red hb hc] at p1 p2 p3
  rw [← times_red ha hb] at u1 u2 u3
  rw [← times_red ha hc] at v1 v2 v3
  have sp := lsg_ne (x := b.1 * c.2.2 + 1 * c.1 * b.2.2) (y := b.2.1 * c.2.2 + 1 * c.2.1 * b.2.2) (mul_ne nb nc)
  have su := lsg_ne (x := a.1 * b.1 + D * a.2.1 * b.2.1) (y := a.1 * b.2.1 + a.2.1 * b.1) (mul_ne na nb)
  have sv := lsg_ne (x := a.1 * c.1 + D * a.2.1 * c.2.1) (y := a.1 * c.2.1 + a.2.1 * c.1) (mul_ne na nc)
  have nP := below_ne gP
  have nU := below_ne gU
  have nV := below_ne gV
  generalize lsg (b.1 * c.2.2 + 1 * c.1 * b.2.2) (b.2.1 * c.2.2 + 1 * c.2.1 * b.2.2) (b.2.2 * c.2.2) = p at *
  generalize lsg (a.1 * b.1 + D * a.2.1 * b.2.1) (a.1 * b.2.1 + a.2.1 * b.1) (a.2.2 * b.2.2) = u at *
  generalize lsg (a.1 * c.1 + D * a.2.1 * c.2.1) (a.1 * c.2.1 + a.2.1 * c.1) (a.2.2 * c.2.2) = v at *
  generalize plusT D 1 b c = P at *
  generalize timesT D a b = U at *
  generalize timesT D a c = V at *
  rw [← red_scale (k := a.2.2 * p) (mul_ne na sp) (mul_ne na nP), ← red_scale (k := u * v) (mul_ne su sv) (mul_ne nU nV)]
  have e1 : a.2.2 * p * (a.1 * P.1 + D * a.2.1 * P.2.1) = u * v * (U.1 * V.2.2 + 1 * V.1 * U.2.2) := by rw [ringA, ← p1, ← p2, ringB u v, ← u1, ← v3, ← v1, ← u3, ringC]
  have e2 : a.2.2 * p * (a.1 * P.2.1 + a.2.1 * P.1) = u * v * (U.2.1 * V.2.2 + 1 * V.2.1 * U.2.2) := by rw [ringD, ← p1, ← p2, ringB u v, ← u2, ← v3, ← v2, ← u3, ringE]
  have e3 : a.2.2 * p * (a.2.2 * P.2.2) = u * v * (U.2.2 * V.2.2) := by rw [ringF, ← p3, ringG, ← u3, ← v3, ringH]
  rw [e1, e2, e3]
/-- what is divided by comes back -/
theorem over_times {D : Int} {a b : Int × Int × Int} (h0 : 0 ≤ D) (ha : Good D a) (hb : Good D b) (hz : ¬ (b.1 = 0 ∧ b.2.1 = 0)) : timesT D (timesT D a (invT D b)) b = a := by
  have na := below_ne ha
  have nb := below_ne hb
  have nn := norm_ne h0 hb hz
  have gI := inv_good h0 hb hz
  have gQ : Good D (timesT D a (invT D b)) := times_good ha gI
  rw [times_red gQ hb]
  obtain ⟨i1, i2, i3⟩ := red_mul (x := b.2.2 * b.1) (y := -b.2.2 * b.2.1) nn
  have si := lsg_ne (x := b.2.2 * b.1) (y := -b.2.2 * b.2.1) nn
  rw [← inv_red hb] at i1 i2 i3
  have nI := below_ne gI
  obtain ⟨q1, q2, q3⟩ := red_mul (x := a.1 * (invT D b).1 + D * a.2.1 * (invT D b).2.1) (y := a.1 * (invT D b).2.1 + a.2.1 * (invT D b).1) (mul_ne na nI)
  have sq := lsg_ne (x := a.1 * (invT D b).1 + D * a.2.1 * (invT D b).2.1) (y := a.1 * (invT D b).2.1 + a.2.1 * (invT D b).1) (mul_ne na nI)
  rw [← times_red ha gI] at q1 q2 q3
  have nQ := below_ne gQ
  generalize lsg (a.1 * (invT D b).1 + D * a.2.1 * (invT D b).2.1) (a.1 * (invT D b).2.1 + a.2.1 * (invT D b).1) (a.2.2 * (invT D b).2.2) = q at *
  generalize timesT D a (invT D b) = T at *
  generalize lsg (b.2.2 * b.1) (-b.2.2 * b.2.1) (normT D b) = i at *
  generalize invT D b = I at *
  have hn : normT D b = b.1 * b.1 - D * b.2.1 * b.2.1 := rfl
  generalize normT D b = n at *
  rw [← red_scale (k := q * i) (mul_ne sq si) (mul_ne nQ nb)]
  have e1 : q * i * (T.1 * b.1 + D * T.2.1 * b.2.1) = b.2.2 * n * a.1 := by rw [ringI, ← q1, ← q2, ringJ, ← i1, ← i2, ringK, ← hn]
  have e2 : q * i * (T.1 * b.2.1 + T.2.1 * b.1) = b.2.2 * n * a.2.1 := by rw [ringL, ← q1, ← q2, ringM, ← i1, ← i2, ringN, ← hn]
  have e3 : q * i * (T.2.2 * b.2.2) = b.2.2 * n * a.2.2 := by rw [ringO, ← q3, ringP, ← i3]
  rw [e1, e2, e3, red_scale (mul_ne nb nn) na]
  exact red_self ha.1 ha.2.1
theorem times_over {D : Int} {a b : Int × Int × Int} (h0 : 0 ≤ D) (ha : Good D a) (hb : Good D b) (hz : ¬ (b.1 = 0 ∧ b.2.1 = 0)) : timesT D (timesT D a b) (invT D b) = a := by
  have na := below_ne ha
  have nb := below_ne hb
  have nn := norm_ne h0 hb hz
  have gI := inv_good h0 hb hz
  have gU : Good D (timesT D a b) := times_good ha hb
  rw [times_red gU gI]
  obtain ⟨i1, i2, i3⟩ := red_mul (x := b.2.2 * b.1) (y := -b.2.2 * b.2.1) nn
  have si := lsg_ne (x := b.2.2 * b.1) (y := -b.2.2 * b.2.1) nn
  rw [← inv_red hb] at i1 i2 i3
  have nI := below_ne gI
  obtain ⟨q1, q2, q3⟩ := red_mul (x := a.1 * b.1 + D * a.2.1 * b.2.1) (y := a.1 * b.2.1 + a.2.1 * b.1) (mul_ne na nb)
  have sq := lsg_ne (x := a.1 * b.1 + D * a.2.1 * b.2.1) (y := a.1 * b.2.1 + a.2.1 * b.1) (mul_ne na nb)
  rw [← times_red ha hb] at q1 q2 q3
  have nU := below_ne gU
  generalize lsg (a.1 * b.1 + D * a.2.1 * b.2.1) (a.1 * b.2.1 + a.2.1 * b.1) (a.2.2 * b.2.2) = q at *
  generalize timesT D a b = U at *
  generalize lsg (b.2.2 * b.1) (-b.2.2 * b.2.1) (normT D b) = i at *
  generalize invT D b = I at *
  have hn : normT D b = b.1 * b.1 - D * b.2.1 * b.2.1 := rfl
  generalize normT D b = n at *
  rw [← red_scale (k := q * i) (mul_ne sq si) (mul_ne nU nI)]
  have e1 : q * i * (U.1 * I.1 + D * U.2.1 * I.2.1) = b.2.2 * n * a.1 := by rw [ringQ, ← q1, ← q2, ← i1, ← i2, ringR, ← hn]
  have e2 : q * i * (U.1 * I.2.1 + U.2.1 * I.1) = b.2.2 * n * a.2.1 := by rw [ringS, ← q1, ← q2, ← i1, ← i2, ringT, ← hn]
  have e3 : q * i * (U.2.2 * I.2.2) = b.2.2 * n * a.2.2 := by rw [ringG, ← q3, ← i3, ringU]
  rw [e1, e2, e3, red_scale (mul_ne nb nn) na]
  exact red_self ha.1 ha.2.1
end Kx
namespace Kx
open PySem PySem.Spec PyProof.Rows L2
/-! ### sizes -/
def Sz (n : Nat) (t : Int × Int × Int) : Prop := t.1.natAbs < 2 ^ n ∧ t.2.1.natAbs < 2 ^ n ∧ t.2.2.natAbs < 2 ^ n
theorem up {x n m : Nat} (h : x < 2 ^ n) (l : n ≤ m) : x < 2 ^ m := Nat.lt_of_lt_of_le h (Nat.pow_le_pow_right (by decide) l)
theorem Sz.up {n m : Nat} {t : Int × Int × Int} (h : Sz n t) (l : n ≤ m) : Sz m t := ⟨Kx.up h.1 l, Kx.up h.2.1 l, Kx.up h.2.2 l⟩
theorem sz_add {x y : Int} {k : Nat} (hx : x.natAbs < 2 ^ k) (hy : y.natAbs < 2 ^ k) : (x + y).natAbs < 2 ^ (k + 1) := by
  rw [Nat.pow_succ]
  omega
theorem sz_sub {x y : Int} {k : Nat} (hx : x.natAbs < 2 ^ k) (hy : y.natAbs < 2 ^ k) : (x - y).natAbs < 2 ^ (k + 1) := by
  rw [Nat.pow_succ]
  omega
theorem bnd {x : Int} {n : Nat} (h : x.natAbs < 2 ^ n) (l : n ≤ 2000) : x.natAbs < 2 ^ 2000 := up h l
theorem okm {i j : Int} {n m : Nat} (hi : i.natAbs < 2 ^ n) (hj : j.natAbs < 2 ^ m) (ln : n ≤ 2000) (lm : m ≤ 2000) : IntMulOk i j := by
  have h1 := bnd hi ln
  have h2 := bnd hj lm
  exact cmw (by omega) (by omega) (by omega) (by omega)
theorem red_sz {x y b : Int} {n : Nat} (hb : b ≠ 0) (h1 : x.natAbs < 2 ^ n) (h2 : y.natAbs < 2 ^ n) (h3 : b.natAbs < 2 ^ n) : Sz n (red x y b) := by
  obtain ⟨p, q, r⟩ := red_size (x := x) (y := y) hb
  exact ⟨Nat.lt_of_le_of_lt p h1, Nat.lt_of_le_of_lt q h2, Nat.lt_of_le_of_lt r h3⟩
section
variable {D s : Int} {t u : Int × Int × Int} {n m : Nat}
theorem one_mul_sz {s z : Int} {k : Nat} (hs : s = 1 ∨ s = -1) (hz : z.natAbs < 2 ^ k) : (s * z).natAbs < 2 ^ k := by
  rcases hs with rfl | rfl
  · rw [Int.one_mul]; exact hz
  · rw [Int.neg_mul, Int.one_mul, Int.natAbs_neg]; exact hz
theorem plus_sz (hs : s = 1 ∨ s = -1) (ht : Good D t) (hu : Good D u) (zt : Sz n t) (zu : Sz m u) : Sz (n + m + 1) (plusT D s t u) := by
  rw [plus_red ht hu]
  refine red_sz (mul_ne (below_ne ht) (below_ne hu)) (sz_add (wide_lt zt.1 zu.2.2) ?_) (sz_add (wide_lt zt.2.1 zu.2.2) ?_) (Kx.up (wide_lt zt.2.2 zu.2.2) (by omega))
  · rw [Nat.add_comm n m]; exact wide_lt (one_mul_sz hs zu.1) zt.2.2
  · rw [Nat.add_comm n m]; exact wide_lt (one_mul_sz hs zu.2.1) zt.2.2
theorem dmul_sz {k : Nat} (h0 : D.natAbs < 2 ^ 200) {x y : Int} (hx : x.natAbs < 2 ^ n) (hy : y.natAbs < 2 ^ m) (l : 200 + n + m ≤ k) : (D * x * y).natAbs < 2 ^ k := Kx.up (wide_lt (wide_lt h0 hx) hy) l
theorem times_sz (h0 : D.natAbs < 2 ^ 200) (ht : Good D t) (hu : Good D u) (zt : Sz n t) (zu : Sz m u) : Sz (n + m + 201) (timesT D t u) := by
  rw [times_red ht hu]
  refine red_sz (mul_ne (below_ne ht) (below_ne hu)) (sz_add (Kx.up (wide_lt zt.1 zu.1) (by omega)) (dmul_sz h0 zt.2.1 zu.2.1 (by omega))) (Kx.up (sz_add (wide_lt zt.1 zu.2.1) (wide_lt zt.2.1 zu.1)) (by omega)) (Kx.up (wide_lt zt.2.2 zu.2.2) (by omega))
theorem norm_sz (h0 : D.natAbs < 2 ^ 200) (zu : Sz m u) : (normT D u).natAbs < 2 ^ (2 * m + 201) := by
  unfold normT
  exact sz_sub (Kx.up (wide_lt zu.1 zu.1) (by omega)) (dmul_sz h0 zu.2.1 zu.2.1 (by omega))
theorem inv_sz (h0 : 0 ≤ D) (h1 : D.natAbs < 2 ^ 200) (hu : Good D u) (hz : ¬ (u.1 = 0 ∧ u.2.1 = 0)) (zu : Sz m u) : Sz (2 * m + 201) (invT D u) := by
  rw [inv_red hu]
  have hn : (-u.2.2).natAbs < 2 ^ m := by rw [Int.natAbs_neg]; exact zu.2.2
  exact red_sz (norm_ne h0 hu hz) (Kx.up (wide_lt zu.2.2 zu.1) (by omega)) (Kx.up (wide_lt hn zu.2.1) (by omega)) (norm_sz h1 zu)
end
/-! ### promises -/
def spReduced : Sp := fun vs H Q _ => ∃ D x y b : Int, vs = [.int D, .int x, .int y, .int b] ∧ 0 ≤ D ∧ D < 2 ^ 1000 ∧ x.natAbs < 2 ^ 2000 ∧ y.natAbs < 2 ^ 2000 ∧ b.natAbs < 2 ^ 2000 ∧ b ≠ 0 ∧ ∀ (p : Addr) (H' : Hp), H p = none → Same H H' → H' p = some (.tup (rootV (least D x y b))) → Q (.ref p) H'
/-- two root numbers at hand -/
structure Two (D : Int) (H : Hp) (a b : Addr) (t u : Int × Int × Int) (n m : Nat) : Prop where
  M : Meas D
  lt : D < 2 ^ 200
  ra : RootAt D H a t
  rb : RootAt D H b u
  za : Sz n t
  zb : Sz m u
theorem Two.same {D : Int} {H H' : Hp} {a b : Addr} {t u : Int × Int × Int} {n m : Nat} (h : Two D H a b t u n m) (s : Same H H') : Two D H' a b t u n m := ⟨h.M, h.lt, h.ra.same s, h.rb.same s, h.za, h.zb⟩
theorem Two.dn {D : Int} {H : Hp} {a b : Addr} {t u : Int × Int × Int} {n m : Nat} (h : Two D H a b t u n m) : 0 ≤ D ∧ D.natAbs < 2 ^ 200 := by
  have h1 := h.M.1
  have h2 := h.lt
  constructor <;> omega
def spTotal : Sp := fun vs H Q _ => ∃ (D s : Int) (a b : Addr) (t u : Int × Int × Int) (n m : Nat), vs = [.int D, .ref a, .ref b, .int s] ∧ (s = 1 ∨ s = -1) ∧ Two D H a b t u n m ∧ n + m ≤ 1700 ∧ ∀ (p : Addr) (H' : Hp), H p = none → Same H H' → RootAt D H' p (plusT D s t u) → Q (.ref p) H'
def spPlus (s : Int) : Sp := fun vs H Q _ => ∃ (D : Int) (a b : Addr) (t u : Int × Int × Int) (n m : Nat), vs = [.int D, .ref a, .ref b] ∧ Two D H a b t u n m ∧ n + m ≤ 1700 ∧ ∀ (p : Addr) (H' : Hp), H p = none → Same H H' → RootAt D H' p (plusT D s t u) → Q (.ref p) H'
def spTimes : Sp := fun vs H Q _ => ∃ (D : Int) (a b : Addr) (t u : Int × Int × Int) (n m : Nat), vs = [.int D, .ref a, .ref b] ∧ Two D H a b t u n m ∧ n + m ≤ 1700 ∧ ∀ (p : Addr) (H' : Hp), H p = none → Same H H' → RootAt D H' p (timesT D t u) → Q (.ref p) H'
def spOver : Sp := fun vs H Q _ => ∃ (D : Int) (a b : Addr) (t u : Int × Int × Int) (n m : Nat), vs = [.int D, .ref a, .ref b] ∧ Two D H a b t u n m ∧ n + 2 * m ≤ 1450 ∧ ¬ (u.1 = 0 ∧ u.2.1 = 0) ∧ ∀ (p : Addr) (H' : Hp), H p = none → Same H H' → RootAt D H' p (timesT D t (invT D u)) → Q (.ref p) H'
/-- the law's own sums: with the sign as the last argument -/
def spLawPlus : Sp := spTotal
/-! ### repr -/
mutual
def cost : PyData → Nat
  | .none => 4
  | .bool _ => 5
  | .int _ => 1925
  | .str x => (reprText x).length
  | .list xs => costAll xs + 3
  | .tuple xs => costAll xs + 3
  | .dict _ => 0
def costAll : List PyData → Nat
  | [] => 0
  | x :: xs => cost x + 2 + costAll xs
end
theorem listText_le : ∀ ts : List Str, (listText ts).length ≤ piled ts + 3
  | [] => by decide
  | t :: ts => by
    unfold listText
    show (textFrom 1 (("[" : Str) ++ t) ts ++ ("]" : Str)).length ≤ _
    have h := textFrom_length_pos ts 1 (("[" : Str) ++ t) (by decide)
    have e1 : ∀ a b : Str, (a ++ b).length = a.length + b.length := fun a b => Str.length_append a b
    rw [e1, h, e1, piled_cons]
    have e2 : ("[" : Str).length = 1 := by decide
    have e3 : ("]" : Str).length = 1 := by decide
    omega
theorem tupleText_le (ts : List Str) : (tupleText ts).length ≤ piled ts + 3 := by
  unfold tupleText
  have e1 : ∀ a b : Str, (a ++ b).length = a.length + b.length := fun a b => Str.length_append a b
  rw [e1, e1]
  have e2 : ("(" : Str).length = 1 := by decide
  have hj : (Str.join ", " ts).length ≤ piled ts := by
    cases ts with
    | nil => decide
    | cons t r =>
      have := join_length_add (t :: r) (by simp)
      omega
  have e3 : ∀ c : Bool, ((if c then ",)" else ")" : String) : Str).length ≤ 2 := fun c => by cases c <;> decide
  have := e3 (ts.length == 1)
  omega
mutual
theorem cost_ok : ∀ d : PyData, d.showable = true → d.hasDict = false → d.shown.length ≤ cost d
  | .none, _, _ => by simp only [PyData.shown, cost]; decide
  | .bool b, _, _ => by cases b <;> simp only [PyData.shown, cost] <;> decide
  | .int i, h, _ => by
    simp only [PyData.shown, cost]
    have h2 : i.natAbs.log2 < 1920 := by simpa [PyData.showable] using h
    exact Nat.le_trans (int_text_len_1921 h2) (by decide)
  | .str x, _, _ => by simp only [PyData.shown, cost]; exact Nat.le_refl _
  | .list xs, h, hd => by
    simp only [PyData.shown, cost]
    have := costAll_ok xs (by simpa [PyData.showable] using h) (by simpa [PyData.hasDict] using hd)
    have := listText_le (PyData.shownAll xs)
    omega
  | .tuple xs, h, hd => by
    simp only [PyData.shown, cost]
    have := costAll_ok xs (by simpa [PyData.showable] using h) (by simpa [PyData.hasDict] using hd)
    have := tupleText_le (PyData.shownAll xs)
    omega
  | .dict _, _, h => by simp [PyData.hasDict] at h
theorem costAll_ok : ∀ ds : List PyData, PyData.showableAll ds = true → PyData.hasDictAll ds = false → piled (PyData.shownAll ds) ≤ costAll ds
  | [], _, _ => by simp only [PyData.shownAll, costAll]; decide
  | d :: ds, h, hd => by
    have h1 : d.showable = true ∧ PyData.showableAll ds = true := by simpa [PyData.showableAll] using h
    have h2 : d.hasDict = false ∧ PyData.hasDictAll ds = false := by simpa [PyData.hasDictAll] using hd
    simp only [PyData.shownAll, costAll, piled_cons]
    have := cost_ok d h1.1 h2.1
    have := costAll_ok ds h1.2 h2.2
    omega
end
/-- data whose repr may be asked for -/
structure Rp (K : PySem.W.Frag) (H : Hp) (x : V) (d : PyData) : Prop where
  dp : Dp K H x d
  sh : d.showable = true
  nd : d.hasDict = false
  de : d.depth ≤ 60
  co : cost d ≤ 16000000
theorem cr_reprR {X : Cx} (gd : X.A.guards = some []) (hu : X.A.units + 64 < cLine) : CallR X (.builtin "repr") (fun vs H Q => ∃ (x : V) (d : PyData), vs = [x] ∧ Rp X.K H x d ∧ Q (.str d.shown) H) := by
  intro pins s σ H vs us Q I r h
  obtain ⟨x, d, e, R, q⟩ := h
  exact cr_reprD gd hu pins s σ H vs us Q I r ⟨x, d, e, R.dp, R.sh, R.nd, R.de, Nat.le_trans (cost_ok d R.sh R.nd) (Nat.le_trans R.co (by decide)), q⟩
def rootD (t : Int × Int × Int) : PyData := .tuple [.int t.1, .int t.2.1, .int t.2.2]
theorem dp_root {K : PySem.W.Frag} {H : Hp} {a : Addr} {t : Int × Int × Int} (h : H a = some (.tup (rootV t))) : Dp K H (.ref a) (rootD t) := .tup (SqT.of h) (.cons (.int _) (.cons (.int _) (.cons (.int _) .nil)))
theorem log_sz {x : Int} {n : Nat} (h : x.natAbs < 2 ^ n) (l : n ≤ 1900) : x.natAbs.log2 < 1920 := Nat.lt_of_lt_of_le (PySem.Flt.log2_lt_of (by decide) (up h l)) (by decide)
theorem root_show {t : Int × Int × Int} {n : Nat} (z : Sz n t) (l : n ≤ 1900) : (rootD t).showable = true := by
  simp only [rootD, PyData.showable, PyData.showableAll, log_sz z.1 l, log_sz z.2.1 l, log_sz z.2.2 l, decide_true, Bool.and_self]
theorem shaped_root (t : Int × Int × Int) : SeqAt.shaped (rootD t) = true := rfl
theorem ne_roots {K : PySem.W.Frag} {H : Hp} {a b : Addr} {t u : Int × Int × Int} {Q : VK} (h1 : H a = some (.tup (rootV t))) (h2 : H b = some (.tup (rootV u))) (e : t = u) (q : Q (.bl false) H) : rNeD K (.ref a) (.ref b) H Q := by
  subst e
  exact ⟨_, _, dp_root h1, dp_root h2, rfl, rfl, by rw [eqv_same rfl]; exact q⟩
theorem eq_roots {K : PySem.W.Frag} {H : Hp} {a b : Addr} {t u : Int × Int × Int} {Q : VK} (h1 : H a = some (.tup (rootV t))) (h2 : H b = some (.tup (rootV u))) (e : t = u) (q : Q (.bl true) H) : rEqD K (.ref a) (.ref b) H Q := by
  subst e
  exact ⟨_, _, dp_root h1, dp_root h2, rfl, rfl, by rw [eqv_same rfl]; exact q⟩
theorem rp_roots3 {K : PySem.W.Frag} {H : Hp} {L a b c : Addr} {t u v : Int × Int × Int} {n m l : Nat} (hL : H L = some (.lst [.ref a, .ref b, .ref c])) (h1 : H a = some (.tup (rootV t))) (h2 : H b = some (.tup (rootV u))) (h3 : H c = some (.tup (rootV v)))
    (z1 : Sz n t) (z2 : Sz m u) (z3 : Sz l v) (l1 : n ≤ 1900) (l2 : m ≤ 1900) (l3 : l ≤ 1900) : Rp K H (.ref L) (.list [rootD t, rootD u, rootD v]) where
  dp := .lst (SqL.of hL) (.cons (dp_root h1) (.cons (dp_root h2) (.cons (dp_root h3) .nil)))
  sh := by
    show (PyData.showableAll [rootD t, rootD u, rootD v]) = true
    simp only [PyData.showableAll, root_show z1 l1, root_show z2 l2, root_show z3 l3, Bool.and_self]
  nd := rfl
  de := Nat.le_of_ble_eq_true rfl
  co := Nat.le_of_ble_eq_true rfl
theorem GenAt.ne {H : Hp} {g a : Addr} {k : Nat} (G : GenAt H g k) {xs : List V} (h : H a = some (.tup xs)) : a ≠ g := fun z => by
  obtain ⟨_, _, _, e, _⟩ := G
  rw [z, e] at h
  cases h
theorem GenAt.nn {H : Hp} {g a : Addr} {k : Nat} (G : GenAt H g k) (h : H a = none) : a ≠ g := fun z => by
  obtain ⟨_, _, _, e, _⟩ := G
  rw [z, e] at h
  cases h
theorem GenAt.upd {H : Hp} {g d : Addr} {k : Nat} {o : HO} (G : GenAt H g k) (h : d ≠ g) : GenAt (L2.upd H d o) g k := by
  obtain ⟨a, b, c, e, r⟩ := G
  exact ⟨a, b, c, by rw [upd_ne (Ne.symm h)]; exact e, r⟩
theorem Keep.root {D : Int} {H H' : Hp} {g a : Addr} {k : Nat} {t : Int × Int × Int} (s : Keep g H H') (G : GenAt H g k) (r : RootAt D H a t) : RootAt D H' a t := ⟨s _ _ (G.ne r.1) r.1, r.2⟩
theorem RootAt.upd {D : Int} {H : Hp} {d a : Addr} {t : Int × Int × Int} {xs : List V} {o : HO} (r : RootAt D H a t) (h : H d = some (.lst xs)) : RootAt D (L2.upd H d o) a t := by
  refine ⟨?_, r.2⟩
  rw [upd_ne (fun z => ?_)]
  · exact r.1
  · have := r.1
    rw [z, h] at this
    cases this
theorem Keep.upd {H H' : Hp} {g d : Addr} {o : HO} (s : Keep g H H') (h : H d = none) : Keep g H (L2.upd H' d o) := fun b u hb e => by
  rw [upd_ne (ne_of_none e h)]
  exact s b u hb e
theorem rt_half {D : Int} (h0 : 0 ≤ D) (h1 : D < 2 ^ 200) : rt D < 2 ^ 100 := by
  obtain ⟨s0, s1, s2⟩ := rt_spec h0
  by_cases h : rt D < 2 ^ 100
  · exact h
  · have := sq_mono (x := 2 ^ 100) (y := rt D) (by decide) (by omega)
    omega
theorem least_sz {D x y b : Int} (h0 : 0 ≤ D) (h1 : D < 2 ^ 200) (hx : x.natAbs < 2 ^ 150) (hy : y.natAbs < 2 ^ 150) (hb : b.natAbs < 2 ^ 150) (hb0 : b ≠ 0) : Sz 251 (least D x y b) := by
  obtain ⟨r0, r1⟩ := rt_le h0
  have r2 := rt_half h0 h1
  have w1 : (y * rt D).natAbs < 2 ^ (150 + 100) := wide_lt hy (by omega)
  simp only [Nat.reduceAdd] at w1
  unfold least
  split
  · exact red_sz hb0 (sz_add (up hx (by decide)) w1) (by decide) (up hb (by decide))
  · exact red_sz hb0 (up hx (by decide)) (up hy (by decide)) (up hb (by decide))
theorem Good.le {D : Int} {t : Int × Int × Int} (h : Good D t) : t = least D t.1 t.2.1 t.2.2 := (least_self h).symm
theorem two_new {D : Int} {H : Hp} {p q : Addr} {t u : Int × Int × Int} (M : Meas D) (l : D < 2 ^ 200) (n1 : H p = none) (n2 : L2.upd H p (.tup (rootV t)) q = none) (gt : Good D t) (gu : Good D u) (zt : Sz 10 t) (zu : Sz 10 u) :
    Two D (L2.upd (L2.upd H p (.tup (rootV t))) q (.tup (rootV u))) p q t u 10 10 :=
  ⟨M, l, ⟨by rw [upd_ne (ne_new n2)]; exact upd_same, gt⟩, ⟨upd_same, gu⟩, zt, zu⟩
end Kx

set_option Elab.async false
set_option linter.all false
set_option maxRecDepth 100000
set_option maxHeartbeats 4000000
set_option exponentiation.threshold 4000
/-! Odd values: what they are, and that they stay. -/
namespace Kx
open PySem PySem.Spec PyProof.Rows L2
mutual
theorem dp_same {K : PySem.W.Frag} {H H' : Hp} (s : Same H H') : ∀ (d : PyData) (v : V), Dp K H v d → Dp K H' v d
  | .none, _, h => by cases h; exact .non
  | .bool _, _, h => by cases h; exact .bl _
  | .int _, _, h => by cases h; exact .int _
  | .str _, _, h => by cases h; exact .str _
  | .list ds, _, h => by
    cases h with
    | lst q r => exact .lst (SqL.ext q s) (dpAll_same s ds _ r)
  | .tuple ds, _, h => by
    cases h with
    | tup q r => exact .tup (SqT.ext q s) (dpAll_same s ds _ r)
  | .dict _, _, h => by cases h
theorem dpAll_same {K : PySem.W.Frag} {H H' : Hp} (s : Same H H') : ∀ (ds : List PyData) (vs : List V), DpAll K H vs ds → DpAll K H' vs ds
  | [], _, h => by cases h; exact .nil
  | d :: ds, _, h => by
    cases h with
    | cons q r => exact .cons (dp_same s d _ q) (dpAll_same s ds _ r)
end
theorem Rp.same {K : PySem.W.Frag} {H H' : Hp} {x : V} {d : PyData} (h : Rp K H x d) (s : Same H H') : Rp K H' x d := ⟨dp_same s _ _ h.dp, h.sh, h.nd, h.de, h.co⟩
theorem OkItem.at {H : Hp} {a : Addr} (h : OkItem H (.ref a)) : ∃ o, H a = some o := by
  obtain ⟨t, ht⟩ := h
  have h2 : (match H a with | some (.lst _) => some "list" | some (.tup _) => some "tuple" | some (.dK _) => some "dict" | _ => none) = some t := ht
  cases e : H a with
  | none => rw [e] at h2; cases h2
  | some o => exact ⟨o, rfl⟩
theorem OkV.same {H H' : Hp} {x : V} (h : OkV H x) (s : Same H H') : OkV H' x := by
  refine ⟨h.1.same s, fun a xs e1 e2 y hy => ?_⟩
  subst e1
  obtain ⟨o, ho⟩ := h.1.at
  have := s _ _ ho
  rw [e2] at this
  cases this
  exact (h.2 a xs rfl ho y hy).same s
def Flat (d : PyData) : Prop := d.canLay0 = true ∧ d.depth ≤ 20
theorem flat_lay : ∀ {ds : List PyData}, (∀ d ∈ ds, Flat d) → PyData.canLayAll0 ds = true ∧ PyData.depthAll ds ≤ 20
  | [], _ => ⟨rfl, by simp only [PyData.depthAll]; omega⟩
  | d :: ds, h => by
    obtain ⟨h1, h2⟩ := h d (List.mem_cons_self ..)
    obtain ⟨h3, h4⟩ := flat_lay (ds := ds) fun e he => h e (List.mem_cons_of_mem _ he)
    refine ⟨?_, ?_⟩
    · simp only [PyData.canLayAll0, h1, h3, Bool.and_self]
    · simp only [PyData.depthAll]
      omega
theorem flat_shaped {ds : List PyData} (h : ∀ d ∈ ds, Flat d) : SeqAt.shaped (.list ds) = true := by
  obtain ⟨h1, h2⟩ := flat_lay h
  have e1 : PyData.canLay0 (.list ds) = true := by simp only [PyData.canLay0]; exact h1
  have e2 : PyData.depth (.list ds) ≤ 64 := by simp only [PyData.depth]; omega
  unfold SeqAt.shaped
  rw [e1, decide_eq_true e2]
  rfl
theorem dp_filter {K : PySem.W.Frag} {H : Hp} {f : V → Bool} : ∀ {xs : List V} {ds : List PyData}, DpAll K H xs ds → (∀ d ∈ ds, Flat d) → ∃ es, DpAll K H (xs.filter f) es ∧ ∀ d ∈ es, Flat d
  | [], _, _, _ => ⟨[], .nil, fun d hd => absurd hd List.not_mem_nil⟩
  | x :: xs, _, h, hf => by
    cases h with
    | @cons _ _ d ds q r =>
      obtain ⟨es, h1, h2⟩ := dp_filter (f := f) r fun e he => hf e (List.mem_cons_of_mem _ he)
      cases hx : f x with
      | true =>
        rw [List.filter_cons_of_pos hx]
        refine ⟨d :: es, .cons q h1, fun e he => ?_⟩
        rcases List.mem_cons.mp he with rfl | he
        · exact hf e (List.mem_cons_self ..)
        · exact h2 e he
      | false =>
        rw [List.filter_cons_of_neg (by rw [hx]; decide)]
        exact ⟨es, h1, h2⟩
theorem dpAll_nil {K : PySem.W.Frag} {H : Hp} {xs : List V} {ds : List PyData} (h : DpAll K H xs ds) : xs.isEmpty = ds.isEmpty := by
  cases h <;> rfl
/-- a value that is asked for, with its data -/
structure Val (K : PySem.W.Frag) (H : Hp) (x : V) (d : PyData) : Prop where
  rp : Rp K H x d
  ok : OkV H x
  it : ∀ a xs, x = .ref a → H a = some (.tup xs) → ∃ ds, DpAll K H xs ds ∧ ∀ d ∈ ds, Flat d
theorem Val.same {K : PySem.W.Frag} {H H' : Hp} {x : V} {d : PyData} (h : Val K H x d) (s : Same H H') : Val K H' x d := by
  refine ⟨h.rp.same s, h.ok.same s, fun a xs e1 e2 => ?_⟩
  subst e1
  obtain ⟨o, ho⟩ := h.ok.1.at
  have := s _ _ ho
  rw [e2] at this
  cases this
  obtain ⟨ds, h1, h2⟩ := h.it a xs rfl ho
  exact ⟨ds, dpAll_same s _ _ h1, h2⟩
theorem all_filter (f : V → Bool) : ∀ xs : List V, (xs.filter fun x => !f x).isEmpty = xs.all f
  | [] => rfl
  | x :: xs => by
    cases h : f x with
    | true => rw [List.filter_cons_of_neg (by rw [h]; decide), List.all_cons, h, Bool.true_and, all_filter f xs]
    | false => rw [List.filter_cons_of_pos (by rw [h]; rfl), List.all_cons, h]; rfl
theorem eqv_nil (es : List PyData) : PyData.eqv (.list es) (.list []) = es.isEmpty := by cases es <;> rfl
/-- a list that holds what is not let is empty exactly if all is let -/
theorem ne_empty {K : PySem.W.Frag} {H : Hp} {L E : Addr} {xs : List V} {ds : List PyData} {f : V → Bool} {Q : VK} (hL : H L = some (.lst (xs.filter fun x => !f x))) (hE : H E = some (.lst [])) (hd : DpAll K H xs ds) (hf : ∀ d ∈ ds, Flat d) (q : Q (.bl (!xs.all f)) H) : rNeD K (.ref L) (.ref E) H Q := by
  obtain ⟨es, h1, h2⟩ := dp_filter (f := fun x => !f x) hd hf
  refine ⟨.list es, .list [], .lst (SqL.of hL) h1, .lst (SqL.of hE) .nil, flat_shaped h2, rfl, ?_⟩
  rw [eqv_nil, ← dpAll_nil h1, all_filter]
  exact q
def spLawIsRoot (K : PySem.W.Frag) : Sp := fun vs H Q _ => ∃ (D : Int) (x : V) (d : PyData), vs = [.int D, x] ∧ 0 ≤ D ∧ D < 2 ^ 2000 ∧ Val K H x d ∧ ∀ H', Same H H' → Q (.bl (rootB D H x)) H'
def spIsRoot : Sp := fun vs H Q _ => ∃ (D : Int) (x : V), vs = [.int D, x] ∧ Meas D ∧ D < 2 ^ 2000 ∧ OkV H x ∧ ∀ H', Same H H' → Q (.bl (rootB D H x)) H'
/-- where all three are numbers, the last one not 0 -/
def spRootNumber0 : Sp := fun vs H Q _ => ∃ D x y b : Int, vs = [.int D, .int x, .int y, .int b] ∧ Meas D ∧ D < 2 ^ 1000 ∧ x.natAbs < 2 ^ 2000 ∧ y.natAbs < 2 ^ 2000 ∧ b.natAbs < 2 ^ 2000 ∧ b ≠ 0 ∧ ∀ (p : Addr) (H' : Hp), H p = none → Same H H' → H' p = some (.tup (rootV (least D x y b))) → Q (.ref p) H'
/-! ### values made of plain items -/
structure It (K : PySem.W.Frag) (H : Hp) (v : V) (d : PyData) : Prop where
  dp : Dp K H v d
  sh : d.showable = true
  nd : d.hasDict = false
  de : d.depth ≤ 10
  co : cost d ≤ 100000
  la : d.canLay0 = true
  ok : OkItem H v
inductive ItAll (K : PySem.W.Frag) (H : Hp) : List V → List PyData → Prop
  | nil : ItAll K H [] []
  | cons {v : V} {d : PyData} {vs : List V} {ds : List PyData} : It K H v d → ItAll K H vs ds → ItAll K H (v :: vs) (d :: ds)
section
variable {K : PySem.W.Frag} {H : Hp}
theorem It.int {i : Int} {n : Nat} (h : i.natAbs < 2 ^ n) (l : n ≤ 1900) : It K H (.int i) (.int i) :=
  ⟨.int i, by simp only [PyData.showable, log_sz h l, decide_true], rfl, Nat.le_of_ble_eq_true rfl, Nat.le_of_ble_eq_true rfl, rfl, ⟨"int", rfl⟩⟩
theorem It.bl {b : Bool} : It K H (.bl b) (.bool b) := ⟨.bl b, rfl, rfl, Nat.le_of_ble_eq_true rfl, Nat.le_of_ble_eq_true rfl, rfl, ⟨"bool", rfl⟩⟩
theorem It.non : It K H .non .none := ⟨.non, rfl, rfl, Nat.le_of_ble_eq_true rfl, Nat.le_of_ble_eq_true rfl, rfl, ⟨"NoneType", rfl⟩⟩
theorem It.str {x : Str} (h1 : (PyData.str x).showable = true) (h2 : cost (.str x) ≤ 100000) (h3 : (PyData.str x).canLay0 = true) : It K H (.str x) (.str x) := ⟨.str x, h1, rfl, Nat.le_of_ble_eq_true rfl, h2, h3, ⟨"str", rfl⟩⟩
theorem itAll_facts : ∀ {vs : List V} {ds : List PyData}, ItAll K H vs ds → DpAll K H vs ds ∧ PyData.showableAll ds = true ∧ PyData.hasDictAll ds = false ∧ PyData.depthAll ds ≤ 10 ∧ costAll ds ≤ 100002 * vs.length ∧ PyData.canLayAll0 ds = true ∧ (∀ v ∈ vs, OkItem H v) ∧ ∀ d ∈ ds, Flat d
  | [], _, h => by
    cases h
    exact ⟨.nil, rfl, rfl, by simp only [PyData.depthAll]; omega, by simp only [costAll]; omega, rfl, fun v hv => absurd hv List.not_mem_nil, fun v hv => absurd hv List.not_mem_nil⟩
  | v :: vs, _, h => by
    cases h with
    | cons q r =>
      obtain ⟨h1, h2, h3, h4, h5, h6, h7, h8⟩ := itAll_facts r
      have a1 := q.de
      have a2 := q.co
      refine ⟨.cons q.dp h1, ?_, ?_, ?_, ?_, ?_, ?_, ?_⟩
      · simp only [PyData.showableAll, q.sh, h2, Bool.and_self]
      · simp only [PyData.hasDictAll, q.nd, h3, Bool.or_self]
      · simp only [PyData.depthAll]; omega
      · simp only [costAll, List.length_cons]; omega
      · simp only [PyData.canLayAll0, q.la, h6, Bool.and_self]
      · intro x hx
        rcases List.mem_cons.mp hx with rfl | hx
        · exact q.ok
        · exact h7 x hx
      · intro x hx
        rcases List.mem_cons.mp hx with rfl | hx
        · exact ⟨q.la, by omega⟩
        · exact h8 x hx
theorem val_tup {p : Addr} {xs : List V} {ds : List PyData} (h : H p = some (.tup xs)) (hi : ItAll K H xs ds) (hl : xs.length ≤ 100) : Val K H (.ref p) (.tuple ds) := by
  obtain ⟨h1, h2, h3, h4, h5, h6, h7, h8⟩ := itAll_facts hi
  refine ⟨⟨.tup (SqT.of h) h1, ?_, ?_, ?_, ?_⟩, ⟨⟨"tuple", tyS_tup h⟩, fun a ys e1 e2 y hy => ?_⟩, fun a ys e1 e2 => ?_⟩
  · simp only [PyData.showable]; exact h2
  · simp only [PyData.hasDict]; exact h3
  · simp only [PyData.depth]; omega
  · simp only [cost]; omega
  · cases e1
    rw [h] at e2
    cases e2
    exact h7 y hy
  · cases e1
    rw [h] at e2
    cases e2
    exact ⟨ds, h1, h8⟩
theorem tyS_lst {a : Addr} {xs : List V} (h : H a = some (.lst xs)) : tyS H (.ref a) = some "list" := by
  show (match H a with | some (.lst _) => some "list" | some (.tup _) => some "tuple" | some (.dK _) => some "dict" | _ => none) = some "list"
  rw [h]
theorem val_lst {p : Addr} {xs : List V} {ds : List PyData} (h : H p = some (.lst xs)) (hi : ItAll K H xs ds) (hl : xs.length ≤ 100) : Val K H (.ref p) (.list ds) := by
  obtain ⟨h1, h2, h3, h4, h5, h6, h7, h8⟩ := itAll_facts hi
  refine ⟨⟨.lst (SqL.of h) h1, ?_, ?_, ?_, ?_⟩, ⟨⟨"list", tyS_lst h⟩, fun a ys e1 e2 y hy => ?_⟩, fun a ys e1 e2 => ?_⟩
  · simp only [PyData.showable]; exact h2
  · simp only [PyData.hasDict]; exact h3
  · simp only [PyData.depth]; omega
  · simp only [cost]; omega
  · cases e1
    rw [h] at e2
    cases e2
  · cases e1
    rw [h] at e2
    cases e2
/-- a list of one int as an item -/
theorem It.lst1 {p : Addr} {i : Int} {n : Nat} (h : H p = some (.lst [.int i])) (hi : i.natAbs < 2 ^ n) (l : n ≤ 1900) : It K H (.ref p) (.list [.int i]) :=
  ⟨.lst (SqL.of h) (.cons (.int _) .nil), by simp only [PyData.showable, PyData.showableAll, log_sz hi l, decide_true, Bool.and_self], rfl, Nat.le_of_ble_eq_true rfl, Nat.le_of_ble_eq_true rfl, rfl, ⟨"list", tyS_lst h⟩⟩
theorem val_root {D : Int} {p : Addr} {t : Int × Int × Int} {n : Nat} (h : RootAt D H p t) (z : Sz n t) (l : n ≤ 1900) : Val K H (.ref p) (rootD t) := val_tup h.1 (.cons (.int z.1 l) (.cons (.int z.2.1 l) (.cons (.int z.2.2 l) .nil))) (Nat.le_of_ble_eq_true rfl)
end
theorem wholesB_same {H H' : Hp} {m : Int} {x : V} (s : Same H H') (h : OkItem H x) : wholesB H' m x = wholesB H m x := by
  cases x with
  | ref a =>
    obtain ⟨o, ho⟩ := h.at
    unfold wholesB
    simp only [ho, s _ _ ho]
  | _ => rfl
theorem rootB_same {D : Int} {H H' : Hp} {x : V} (s : Same H H') (h : OkItem H x) : rootB D H' x = rootB D H x := by
  unfold rootB
  rw [wholesB_same s h]
  cases x with
  | ref a =>
    obtain ⟨o, ho⟩ := h.at
    simp only [ho, s _ _ ho]
  | _ => rfl
theorem rp_bl {K : PySem.W.Frag} {H : Hp} {b : Bool} : Rp K H (.bl b) (.bool b) := ⟨.bl b, rfl, rfl, Nat.le_of_ble_eq_true rfl, Nat.le_of_ble_eq_true rfl⟩
theorem rp_root {K : PySem.W.Frag} {D : Int} {H : Hp} {a : Addr} {t : Int × Int × Int} {n : Nat} (h : RootAt D H a t) (z : Sz n t) (l : n ≤ 1900) : Rp K H (.ref a) (rootD t) := (val_root h z l).rp
theorem okV_of {H : Hp} {x : V} {t : String} (h : tyS H x = some t) (hn : t ≠ "tuple") : OkV H x := ⟨⟨t, h⟩, fun a xs e1 e2 => by
  subst e1
  rw [tyS_tup e2] at h
  exact absurd (Option.some.inj h).symm hn⟩
theorem okV_tup0 {H : Hp} {a : Addr} (h : H a = some (.tup [])) : OkV H (.ref a) := ⟨⟨"tuple", tyS_tup h⟩, fun b xs e1 e2 y hy => by
  cases e1
  rw [h] at e2
  cases e2
  exact absurd hy List.not_mem_nil⟩
theorem tyS_dK {H : Hp} {a : Addr} {kvs : List (Key × V)} (h : H a = some (.dK kvs)) : tyS H (.ref a) = some "dict" := by
  show (match H a with | some (.lst _) => some "list" | some (.tup _) => some "tuple" | some (.dK _) => some "dict" | _ => none) = some "dict"
  rw [h]
theorem rootB_of {D : Int} {H : Hp} {x : V} {t : String} (h : tyS H x = some t) (hn : t ≠ "tuple") : rootB D H x = false := rootB_not (wholes_not h hn)
theorem rootB_tup0 {D : Int} {H : Hp} {a : Addr} (h : H a = some (.tup [])) : rootB D H (.ref a) = false := rootB_not (by rw [wholes_tup h]; rfl)
/-- the empty list beside the empty list -/
theorem ne_nil {K : PySem.W.Frag} {H : Hp} {a b : Addr} {Q : VK} (h1 : H a = some (.lst [])) (h2 : H b = some (.lst [])) (q : Q (.bl false) H) : rNeD K (.ref a) (.ref b) H Q :=
  ⟨.list [], .list [], .lst (SqL.of h1) .nil, .lst (SqL.of h2) .nil, rfl, rfl, q⟩
/-! rules that name the frame themselves, for comprehensions -/
section
variable {X : Cx} {K : PySem.W.Frag}
theorem call_isiK (h : X.K = K) : CallR X (.builtin "isinstance") (rIsi K) := h ▸ call_isi
theorem op_neDK (h : X.K = K) (hu : X.A.units + 64 < cLine) : OpR X (compareOp .NotEq) (rNeD K) := h ▸ op_neD hu
theorem op_eqDK (h : X.K = K) (hu : X.A.units + 64 < cLine) : OpR X (compareOp .Eq) (rEqD K) := h ▸ op_eqD hu
theorem sl_tupK (h : X.K = K) : SlR X (rSlT K) := h ▸ sl_tup
theorem sl_listK (h : X.K = K) : SlR X (rSlL K) := h ▸ sl_list
theorem op_catTK (h : X.K = K) : OpR X (binaryOp .Add) (rCatT K) := h ▸ op_catT
theorem call_list_ofK (h : X.K = K) : CallR X (.type "list") (fun xs H Q => ∃ p ys, xs = [.ref p] ∧ (SqL K H p ys ∨ SqT K H p ys) ∧ ∀ l, H l = none → Q (.ref l) (upd H l (.lst ys))) := h ▸ call_list_of
end
/-- one statement at a time -/
theorem seq_gen {A B : TS} {D : Ends} {σ : SV} {H : Hp} (h : ∀ C : SV → Hp → Prop, (∀ σ H, C σ H = B D σ H) → A { D with nx := C } σ H) : tSeq A B D σ H := h _ fun _ _ => rfl
/-- f() -/
theorem pe_d0 {X : Cx} {k j : Nat} {f : Addr} {fd : FuncData} {ps : List Str} {sp : Sp} {x : Str} {p pos : Pos} (D : DefAt X.prog X.w X.K X.mg X.base k x f fd ps sp) (hr : Room j X.A) (hkj : k ≤ j := by decide) (hg : Gl X x := by rfl) (hdb : (x == ("__debug__" : Str)) = false := by decide) :
    PE X (.Call (.Name x p) [] [] pos) (tD sp tNil) := by
  refine ⟨fun pins s σ H Q I h => ?_⟩
  refine (pe_call0 (dvs := []) D.F (hr.mono hkj) hg D.m D.kp D.b .nil pass0 hdb).run pins s σ H Q I ?_
  have e : (tCall sp [] E0 tNil) = tD sp tNil := by funext a b c; unfold tCall tD; simp only [List.append_nil]
  rw [e]
  exact h
end Kx

set_option Elab.async false
set_option linter.all false
set_option maxRecDepth 100000
set_option maxHeartbeats 4000000
set_option exponentiation.threshold 4000
/-! Cuttings. -/
namespace Kx
open PySem PySem.Spec PyProof.Rows L2
def CutOk (a b c e : Int) : Bool := decide (1 ≤ b) && (decide (1 ≤ c) && (decide (c + e < b) && (decide (0 ≤ a) && (decide (a < gcdI b c) && decide (gcdI (gcdI a (gcdI b c)) e = 1)))))
theorem gcd4 (a b c e : Int) : gcdI (gcdI a b) (gcdI c e) = gcdI (gcdI a (gcdI b c)) e := by
  simp only [gcdI, Int.natAbs_natCast, Nat.gcd_assoc]
def cutB (H : Hp) (x : V) : Bool := wholesB H 4 x && (match x with
  | .ref p => match H p with
    | some (.tup [.int a, .int b, .int c, .int e]) => CutOk a b c e
    | _ => false
  | _ => false)
theorem wholes4 {H : Hp} {x : V} (h : wholesB H 4 x = true) : ∃ p a b c e, x = .ref p ∧ H p = some (.tup [.int a, .int b, .int c, .int e]) := by
  obtain ⟨p, xs, e, ha, hl, hall⟩ := wholes_get h
  have hl4 : xs.length = 4 := by omega
  match xs, hl4 with
  | [u, v, w', y], _ =>
    simp only [List.all_cons, List.all_nil, Bool.and_true, Bool.and_eq_true] at hall
    obtain ⟨h1, h2, h3, h4⟩ := hall
    obtain ⟨i, rfl⟩ := isInt_get h1
    obtain ⟨j, rfl⟩ := isInt_get h2
    obtain ⟨l, rfl⟩ := isInt_get h3
    obtain ⟨m, rfl⟩ := isInt_get h4
    exact ⟨p, i, j, l, m, e, ha⟩
theorem cutB4 {H : Hp} {p : Addr} {a b c e : Int} (h : H p = some (.tup [.int a, .int b, .int c, .int e])) : cutB H (.ref p) = CutOk a b c e := by
  unfold cutB wholesB
  simp only [h, List.length_cons, List.length_nil, List.all_cons, List.all_nil, isIntV, Bool.and_self, Bool.and_true]
  rfl
theorem cutB_not {H : Hp} {x : V} (h : wholesB H 4 x = false) : cutB H x = false := by
  unfold cutB
  rw [h, Bool.false_and]
theorem cutB_same {H H' : Hp} {x : V} (s : Same H H') (h : OkItem H x) : cutB H' x = cutB H x := by
  unfold cutB
  rw [wholesB_same s h]
  cases x with
  | ref a =>
    obtain ⟨o, ho⟩ := h.at
    simp only [ho, s _ _ ho]
  | _ => rfl
abbrev Q4 := Int × Int × Int × Int
def cutV4 (q : Q4) : List V := [.int q.1, .int q.2.1, .int q.2.2.1, .int q.2.2.2]
def okQ (q : Q4) : Bool := CutOk q.1 q.2.1 q.2.2.1 q.2.2.2
def measC (q : Q4) : Int := q.2.2.2 * q.2.2.2 + 4 * q.2.1 * q.2.2.1
structure CutAt (H : Hp) (p : Addr) (q : Q4) : Prop where
  at' : H p = some (.tup (cutV4 q))
  ok : okQ q = true
theorem CutAt.same {H H' : Hp} {p : Addr} {q : Q4} (h : CutAt H p q) (s : Same H H') : CutAt H' p q := ⟨s _ _ h.at', h.ok⟩
theorem okQ_get {q : Q4} (h : okQ q = true) : 1 ≤ q.2.1 ∧ 1 ≤ q.2.2.1 ∧ q.2.2.1 + q.2.2.2 < q.2.1 ∧ 0 ≤ q.1 ∧ q.1 < gcdI q.2.1 q.2.2.1 ∧ gcdI (gcdI q.1 (gcdI q.2.1 q.2.2.1)) q.2.2.2 = 1 := by
  unfold okQ CutOk at h
  simp only [Bool.and_eq_true, decide_eq_true_eq] at h
  exact h
theorem sq_mod4 (e : Int) : (e * e) % 4 = 0 ∨ (e * e) % 4 = 1 := by
  have h : e % 2 = 0 ∨ e % 2 = 1 := by omega
  rcases h with h | h
  · left
    have e1 : e = 2 * (e / 2) := by omega
    rw [e1, show 2 * (e / 2) * (2 * (e / 2)) = 4 * ((e / 2) * (e / 2)) by grind]
    omega
  · right
    have e1 : e = 2 * (e / 2) + 1 := by omega
    rw [e1, show (2 * (e / 2) + 1) * (2 * (e / 2) + 1) = 4 * ((e / 2) * (e / 2) + e / 2) + 1 by grind]
    omega
theorem meas_cut {q : Q4} (h : okQ q = true) : Meas (measC q) := by
  obtain ⟨h1, h2, h3, _⟩ := okQ_get h
  unfold Meas measC
  generalize q.2.1 = b at *
  generalize q.2.2.1 = c at *
  generalize q.2.2.2 = e at *
  have hm := sq_mod4 e
  have hbc : b ≤ b * c := by
    have := Int.mul_le_mul_of_nonneg_left h2 (show 0 ≤ b by omega)
    omega
  have hcb : c ≤ b * c := by
    have := Int.mul_le_mul_of_nonneg_right h1 (show 0 ≤ c by omega)
    omega
  have e1 : 4 * b * c = 4 * (b * c) := Int.mul_assoc 4 b c
  have hee : 0 ≤ e * e := by
    by_cases h : e = 0
    · rw [h]; decide
    · have := xx_pos h; omega
  have he0 : e ≠ 0 → 0 < e * e := xx_pos
  rw [e1]
  refine ⟨?_, by omega⟩
  by_cases he : e = 0
  · subst he
    omega
  · have := he0 he
    omega
def spIsCutting : Sp := fun vs H Q _ => ∃ x, vs = [x] ∧ OkV H x ∧ ∀ H', Same H H' → Q (.bl (cutB H x)) H'
/-- where it is one -/
def spCheckCut0 : Sp := fun vs H Q _ => ∃ (p : Addr) (q : Q4), vs = [.ref p] ∧ CutAt H p q ∧ ∀ H', Same H H' → Q .non H'
def Sz4 (n : Nat) (q : Q4) : Prop := q.1.natAbs < 2 ^ n ∧ q.2.1.natAbs < 2 ^ n ∧ q.2.2.1.natAbs < 2 ^ n ∧ q.2.2.2.natAbs < 2 ^ n
def spMeasureOf0 : Sp := fun vs H Q _ => ∃ (p : Addr) (q : Q4), vs = [.ref p] ∧ CutAt H p q ∧ Sz4 1000 q ∧ ∀ H', Same H H' → Q (.int (measC q)) H'
def spApart : Sp := fun vs H Q _ => ∃ a b c : Int, vs = [.int a, .int b, .int c] ∧ Q (.bl (decide (gcdI (gcdI a b) c = 1))) H
def spWholeRoot0 : Sp := fun vs H Q _ => ∃ D : Int, vs = [.int D] ∧ Meas D ∧ D < 2 ^ 2000 ∧ Q (.int (rt D)) H
def spLawIsCutting : Sp := fun vs H Q _ => ∃ a b c e : Int, vs = [.int a, .int b, .int c, .int e] ∧ Q (.bl (CutOk a b c e)) H
/-- four numbers at an address -/
def spLawMeasure4 : Sp := fun vs H Q _ => ∃ (p : Addr) (q : Q4), vs = [.ref p] ∧ H p = some (.tup (cutV4 q)) ∧ Sz4 1000 q ∧ Q (.int (measC q)) H
theorem cutAt_okV {H : Hp} {p : Addr} {q : Q4} (h : H p = some (.tup (cutV4 q))) : OkV H (.ref p) := by
  refine ⟨⟨"tuple", tyS_tup h⟩, fun b xs e1 e2 y hy => ?_⟩
  cases e1
  rw [h] at e2
  cases e2
  simp only [cutV4, List.mem_cons, List.not_mem_nil, or_false] at hy
  rcases hy with rfl | rfl | rfl | rfl <;> exact ⟨"int", rfl⟩
theorem cutB_q {H : Hp} {p : Addr} {q : Q4} (h : H p = some (.tup (cutV4 q))) : cutB H (.ref p) = okQ q := cutB4 h
theorem meas_sz {q : Q4} {n : Nat} (h : Sz4 n q) : (measC q).natAbs < 2 ^ (2 * n + 4) := by
  obtain ⟨_, h2, h3, h4⟩ := h
  unfold measC
  have w1 : (q.2.2.2 * q.2.2.2).natAbs < 2 ^ (2 * n + 3) := up (wide_lt h4 h4) (by omega)
  have w2 : (4 * q.2.1 * q.2.2.1).natAbs < 2 ^ (2 * n + 3) := up (wide_lt (wide_lt (show (4 : Int).natAbs < 2 ^ 3 by decide) h2) h3) (by omega)
  exact sz_add w1 w2
end Kx
namespace Kx
open PySem PySem.Spec PyProof.Rows L2
def spDrawnCut : Sp := fun vs H Q _ => ∃ (g : Addr) (n : Int) (k : Nat), vs = [.ref g, .int n] ∧ GenAt H g k ∧ k ≤ 2 ^ 39 ∧ 1 ≤ n ∧ n ≤ 10 ^ 15 ∧
  ∀ (q : Q4) (p : Addr) (H' : Hp), Sz4 70 q → H p = none → H' p = some (.tup (cutV4 q)) → GenAt H' g (k + 200) → Keep g H H' → Q (.ref p) H'
def spRootRight : Sp := fun vs H Q _ => ∃ D : Int, vs = [.int D] ∧ Meas D ∧ D < 2 ^ 1000 ∧ Q (.bl true) H
def spGreat : Sp := fun vs H Q _ => vs = [] ∧ ∀ H', Same H H' → Q (.bl true) H'
def spFour (n : Nat) : Sp := fun vs H Q _ => ∃ (p : Addr) (q : Q4), vs = [.ref p] ∧ H p = some (.tup (cutV4 q)) ∧ Sz4 n q ∧ ∀ H', Same H H' → Q (.bl true) H'
end Kx
namespace Kx
open PySem PySem.Spec PyProof.Rows L2
def setQ (q : Q4) (i : Nat) (v : V) : List V := (cutV4 q).set i v
theorem bend {K : PySem.W.Frag} {H : Hp} {p : Addr} {q : Q4} {i : Nat} {v : V} {Qf : VK} (hp : H p = some (.tup (cutV4 q))) (hi : i < 4) (k : ∀ r H', Same H H' → H' r = some (.tup (setQ q i v)) → Qf (.ref r) H') :
    rSlA K (.ref p) none (some (0 + (i : Int))) H fun x H1 => 1 ≤ sizeLine ∧ ∀ p1, H1 p1 = none → rCatA K x (.ref p1) (upd H1 p1 (.tup [v])) fun y H2 => rSlA K (.ref p) (some (0 + (i : Int) + 1)) none H2 fun z H3 => rCatA K y z H3 Qf := by
  rcases (show i = 0 ∨ i = 1 ∨ i = 2 ∨ i = 3 by omega) with rfl | rfl | rfl | rfl
  · refine ⟨p, cutV4 q, rfl, SqT.of hp, fun h => absurd h (show ¬ (HT.sIx 4 0 none = 0 ∧ HT.sIx 4 4 (some (0 + ((0 : Nat) : Int))) = 4) by decide), fun _ a na => ⟨by decide, fun b nb => ?_⟩⟩
    rw [show cutV (cutV4 q) none (some (0 + ((0 : Nat) : Int))) = [] from rfl] at nb ⊢
    have ea : (upd (upd H a (.tup [])) b (.tup [v])) a = some (.tup []) := (Same.upd nb) _ _ upd_same
    have eb : (upd (upd H a (.tup [])) b (.tup [v])) b = some (.tup [v]) := upd_same
    have s1 : Same H (upd (upd H a (.tup [])) b (.tup [v])) := (Same.upd na).trans (Same.upd nb)
    generalize upd (upd H a (.tup [])) b (.tup [v]) = h1 at *
    have rest : ∀ (r : Addr) (h2 : Hp), Same H h2 → h2 r = some (.tup [v]) → rSlA K (.ref p) (some (0 + ((0 : Nat) : Int) + 1)) none h2 fun z H3 => rCatA K (.ref r) z H3 Qf := by
      intro r h2 s2 er
      refine ⟨p, cutV4 q, rfl, SqT.of (s2 _ _ hp), fun h => absurd h (show ¬ (HT.sIx 4 0 (some (0 + ((0 : Nat) : Int) + 1)) = 0 ∧ HT.sIx 4 4 none = 4) by decide), fun _ c nc => ?_⟩
      rw [show cutV (cutV4 q) (some (0 + ((0 : Nat) : Int) + 1)) none = [V.int q.2.1, V.int q.2.2.1, V.int q.2.2.2] from rfl]
      refine ⟨r, c, [v], [V.int q.2.1, V.int q.2.2.1, V.int q.2.2.2], rfl, rfl, SqT.of ((Same.upd nc) _ _ er), SqT.of upd_same, (show 4 ≤ sizeLine by decide), fun h => absurd h (by simp), ?_, ?_⟩
      · exact fun _ h => absurd h (by simp)
      · exact fun _ _ d nd => k d _ ((s2.trans (Same.upd nc)).trans (Same.upd nd)) upd_same
    exact ⟨a, b, [], [v], rfl, rfl, SqT.of ea, SqT.of eb, (show 1 ≤ sizeLine by decide), fun _ => rest b _ s1 eb, fun h => absurd rfl h, fun h => absurd rfl h⟩
  · refine ⟨p, cutV4 q, rfl, SqT.of hp, fun h => absurd h (show ¬ (HT.sIx 4 0 none = 0 ∧ HT.sIx 4 4 (some (0 + ((1 : Nat) : Int))) = 4) by decide), fun _ a na => ⟨by decide, fun b nb => ?_⟩⟩
    rw [show cutV (cutV4 q) none (some (0 + ((1 : Nat) : Int))) = [V.int q.1] from rfl] at nb ⊢
    have ea : (upd (upd H a (.tup [V.int q.1])) b (.tup [v])) a = some (.tup [V.int q.1]) := (Same.upd nb) _ _ upd_same
    have eb : (upd (upd H a (.tup [V.int q.1])) b (.tup [v])) b = some (.tup [v]) := upd_same
    have s1 : Same H (upd (upd H a (.tup [V.int q.1])) b (.tup [v])) := (Same.upd na).trans (Same.upd nb)
    generalize upd (upd H a (.tup [V.int q.1])) b (.tup [v]) = h1 at *
    have rest : ∀ (r : Addr) (h2 : Hp), Same H h2 → h2 r = some (.tup [V.int q.1, v]) → rSlA K (.ref p) (some (0 + ((1 : Nat) : Int) + 1)) none h2 fun z H3 => rCatA K (.ref r) z H3 Qf := by
      intro r h2 s2 er
      refine ⟨p, cutV4 q, rfl, SqT.of (s2 _ _ hp), fun h => absurd h (show ¬ (HT.sIx 4 0 (some (0 + ((1 : Nat) : Int) + 1)) = 0 ∧ HT.sIx 4 4 none = 4) by decide), fun _ c nc => ?_⟩
      rw [show cutV (cutV4 q) (some (0 + ((1 : Nat) : Int) + 1)) none = [V.int q.2.2.1, V.int q.2.2.2] from rfl]
      refine ⟨r, c, [V.int q.1, v], [V.int q.2.2.1, V.int q.2.2.2], rfl, rfl, SqT.of ((Same.upd nc) _ _ er), SqT.of upd_same, (show 4 ≤ sizeLine by decide), fun h => absurd h (by simp), ?_, ?_⟩
      · exact fun _ h => absurd h (by simp)
      · exact fun _ _ d nd => k d _ ((s2.trans (Same.upd nc)).trans (Same.upd nd)) upd_same
    exact ⟨a, b, [V.int q.1], [v], rfl, rfl, SqT.of ea, SqT.of eb, (show 2 ≤ sizeLine by decide), fun h => absurd h (by simp), fun _ h => absurd h (by simp), fun _ _ r nr => rest r _ (s1.trans (Same.upd nr)) upd_same⟩
  · refine ⟨p, cutV4 q, rfl, SqT.of hp, fun h => absurd h (show ¬ (HT.sIx 4 0 none = 0 ∧ HT.sIx 4 4 (some (0 + ((2 : Nat) : Int))) = 4) by decide), fun _ a na => ⟨by decide, fun b nb => ?_⟩⟩
    rw [show cutV (cutV4 q) none (some (0 + ((2 : Nat) : Int))) = [V.int q.1, V.int q.2.1] from rfl] at nb ⊢
    have ea : (upd (upd H a (.tup [V.int q.1, V.int q.2.1])) b (.tup [v])) a = some (.tup [V.int q.1, V.int q.2.1]) := (Same.upd nb) _ _ upd_same
    have eb : (upd (upd H a (.tup [V.int q.1, V.int q.2.1])) b (.tup [v])) b = some (.tup [v]) := upd_same
    have s1 : Same H (upd (upd H a (.tup [V.int q.1, V.int q.2.1])) b (.tup [v])) := (Same.upd na).trans (Same.upd nb)
    generalize upd (upd H a (.tup [V.int q.1, V.int q.2.1])) b (.tup [v]) = h1 at *
    have rest : ∀ (r : Addr) (h2 : Hp), Same H h2 → h2 r = some (.tup [V.int q.1, V.int q.2.1, v]) → rSlA K (.ref p) (some (0 + ((2 : Nat) : Int) + 1)) none h2 fun z H3 => rCatA K (.ref r) z H3 Qf := by
      intro r h2 s2 er
      refine ⟨p, cutV4 q, rfl, SqT.of (s2 _ _ hp), fun h => absurd h (show ¬ (HT.sIx 4 0 (some (0 + ((2 : Nat) : Int) + 1)) = 0 ∧ HT.sIx 4 4 none = 4) by decide), fun _ c nc => ?_⟩
      rw [show cutV (cutV4 q) (some (0 + ((2 : Nat) : Int) + 1)) none = [V.int q.2.2.2] from rfl]
      refine ⟨r, c, [V.int q.1, V.int q.2.1, v], [V.int q.2.2.2], rfl, rfl, SqT.of ((Same.upd nc) _ _ er), SqT.of upd_same, (show 4 ≤ sizeLine by decide), fun h => absurd h (by simp), ?_, ?_⟩
      · exact fun _ h => absurd h (by simp)
      · exact fun _ _ d nd => k d _ ((s2.trans (Same.upd nc)).trans (Same.upd nd)) upd_same
    exact ⟨a, b, [V.int q.1, V.int q.2.1], [v], rfl, rfl, SqT.of ea, SqT.of eb, (show 3 ≤ sizeLine by decide), fun h => absurd h (by simp), fun _ h => absurd h (by simp), fun _ _ r nr => rest r _ (s1.trans (Same.upd nr)) upd_same⟩
  · refine ⟨p, cutV4 q, rfl, SqT.of hp, fun h => absurd h (show ¬ (HT.sIx 4 0 none = 0 ∧ HT.sIx 4 4 (some (0 + ((3 : Nat) : Int))) = 4) by decide), fun _ a na => ⟨by decide, fun b nb => ?_⟩⟩
    rw [show cutV (cutV4 q) none (some (0 + ((3 : Nat) : Int))) = [V.int q.1, V.int q.2.1, V.int q.2.2.1] from rfl] at nb ⊢
    have ea : (upd (upd H a (.tup [V.int q.1, V.int q.2.1, V.int q.2.2.1])) b (.tup [v])) a = some (.tup [V.int q.1, V.int q.2.1, V.int q.2.2.1]) := (Same.upd nb) _ _ upd_same
    have eb : (upd (upd H a (.tup [V.int q.1, V.int q.2.1, V.int q.2.2.1])) b (.tup [v])) b = some (.tup [v]) := upd_same
    have s1 : Same H (upd (upd H a (.tup [V.int q.1, V.int q.2.1, V.int q.2.2.1])) b (.tup [v])) := (Same.upd na).trans (Same.upd nb)
    generalize upd (upd H a (.tup [V.int q.1, V.int q.2.1, V.int q.2.2.1])) b (.tup [v]) = h1 at *
    have rest : ∀ (r : Addr) (h2 : Hp), Same H h2 → h2 r = some (.tup [V.int q.1, V.int q.2.1, V.int q.2.2.1, v]) → rSlA K (.ref p) (some (0 + ((3 : Nat) : Int) + 1)) none h2 fun z H3 => rCatA K (.ref r) z H3 Qf := by
      intro r h2 s2 er
      refine ⟨p, cutV4 q, rfl, SqT.of (s2 _ _ hp), fun h => absurd h (show ¬ (HT.sIx 4 0 (some (0 + ((3 : Nat) : Int) + 1)) = 0 ∧ HT.sIx 4 4 none = 4) by decide), fun _ c nc => ?_⟩
      rw [show cutV (cutV4 q) (some (0 + ((3 : Nat) : Int) + 1)) none = [] from rfl]
      refine ⟨r, c, [V.int q.1, V.int q.2.1, V.int q.2.2.1, v], [], rfl, rfl, SqT.of ((Same.upd nc) _ _ er), SqT.of upd_same, (show 4 ≤ sizeLine by decide), fun h => absurd h (by simp), ?_, ?_⟩
      · exact fun _ _ => k r _ (s2.trans (Same.upd nc)) ((Same.upd nc) _ _ er)
      · exact fun _ h => absurd rfl h
    exact ⟨a, b, [V.int q.1, V.int q.2.1, V.int q.2.2.1], [v], rfl, rfl, SqT.of ea, SqT.of eb, (show 4 ≤ sizeLine by decide), fun h => absurd h (by simp), fun _ h => absurd h (by simp), fun _ _ r nr => rest r _ (s1.trans (Same.upd nr)) upd_same⟩
def setZ (q : Q4) : Nat → Int → Q4
  | 0, n => (n, q.2.1, q.2.2.1, q.2.2.2)
  | 1, n => (q.1, n, q.2.2.1, q.2.2.2)
  | 2, n => (q.1, q.2.1, n, q.2.2.2)
  | _, n => (q.1, q.2.1, q.2.2.1, n)
theorem setQ_int {q : Q4} {i : Nat} {n : Int} (hi : i < 4) : setQ q i (.int n) = cutV4 (setZ q i n) := by
  rcases (show i = 0 ∨ i = 1 ∨ i = 2 ∨ i = 3 by omega) with rfl | rfl | rfl | rfl <;> rfl
theorem setZ_sz {q : Q4} {i : Nat} {n : Int} {m : Nat} (z : Sz4 m q) (hn : n.natAbs < 2 ^ m) : Sz4 m (setZ q i n) := by
  obtain ⟨z1, z2, z3, z4⟩ := z
  unfold setZ
  split
  · exact ⟨hn, z2, z3, z4⟩
  · exact ⟨z1, hn, z3, z4⟩
  · exact ⟨z1, z2, hn, z4⟩
  · exact ⟨z1, z2, z3, hn⟩
theorem Sz4.up {n m : Nat} {q : Q4} (h : Sz4 n q) (l : n ≤ m) : Sz4 m q := ⟨Kx.up h.1 l, Kx.up h.2.1 l, Kx.up h.2.2.1 l, Kx.up h.2.2.2 l⟩
/-- a tuple with an odd item is none -/
theorem setQ_odd {H : Hp} {r : Addr} {q : Q4} {i : Nat} {v : V} (hi : i < 4) (h : H r = some (.tup (setQ q i v))) (hv : isIntV v = false) : cutB H (.ref r) = false := by
  refine cutB_not ?_
  rw [wholes_tup h]
  have : (setQ q i v).all isIntV = false := by
    rcases (show i = 0 ∨ i = 1 ∨ i = 2 ∨ i = 3 by omega) with rfl | rfl | rfl | rfl <;> (simp [setQ, cutV4, isIntV]; exact hv)
  rw [this, Bool.and_false]
theorem setQ_ok {H : Hp} {r : Addr} {q : Q4} {i : Nat} {v : V} (hi : i < 4) (h : H r = some (.tup (setQ q i v))) (hv : OkItem H v) : OkV H (.ref r) := by
  refine ⟨⟨"tuple", tyS_tup h⟩, fun b xs e1 e2 y hy => ?_⟩
  cases e1
  rw [h] at e2
  cases e2
  have hm : y = v ∨ y ∈ cutV4 q := by
    rcases List.mem_or_eq_of_mem_set hy with h | h
    · exact .inr h
    · exact .inl h
  rcases hm with rfl | hm
  · exact hv
  · simp only [cutV4, List.mem_cons, List.not_mem_nil, or_false] at hm
    rcases hm with rfl | rfl | rfl | rfl <;> exact ⟨"int", rfl⟩
end Kx
namespace Kx
open PySem PySem.Spec PyProof.Rows L2
theorem cutB_of {H : Hp} {x : V} {t : String} (h : tyS H x = some t) (hn : t ≠ "tuple") : cutB H x = false := cutB_not (wholes_not h hn)
theorem cutB_len {H : Hp} {a : Addr} {xs : List V} (h : H a = some (.tup xs)) (hl : xs.length ≠ 4) : cutB H (.ref a) = false := cutB_not (by
  rw [wholes_tup h, decide_eq_false (by omega), Bool.false_and])
theorem okV_tup {H : Hp} {a : Addr} {xs : List V} (h : H a = some (.tup xs)) (hi : ∀ y ∈ xs, OkItem H y) : OkV H (.ref a) := ⟨⟨"tuple", tyS_tup h⟩, fun b ys e1 e2 y hy => by
  cases e1
  rw [h] at e2
  cases e2
  exact hi y hy⟩
theorem shaped_ints (ns : List Int) : SeqAt.shaped (.list (ns.map PyData.int)) = true := flat_shaped fun d hd => by
  obtain ⟨n, _, rfl⟩ := List.mem_map.mp hd
  exact ⟨rfl, Nat.le_of_ble_eq_true rfl⟩
end Kx
namespace Kx
open PySem PySem.Spec PyProof.Rows L2
theorem eq_nil {K : PySem.W.Frag} {H : Hp} {a b : Addr} {Q : VK} (h1 : H a = some (.lst [])) (h2 : H b = some (.lst [])) (q : Q (.bl true) H) : rEqD K (.ref a) (.ref b) H Q :=
  ⟨.list [], .list [], .lst (SqL.of h1) .nil, .lst (SqL.of h2) .nil, rfl, rfl, q⟩
end Kx
namespace Kx
open PySem PySem.Spec PyProof.Rows L2
theorem dpAll_bools {K : PySem.W.Frag} {H : Hp} : ∀ bs : List Bool, DpAll K H (bs.map V.bl) (bs.map PyData.bool)
  | [] => .nil
  | b :: bs => .cons (.bl b) (dpAll_bools bs)
theorem shaped_bools (bs : List Bool) : SeqAt.shaped (.list (bs.map PyData.bool)) = true := flat_shaped fun d hd => by
  obtain ⟨n, _, rfl⟩ := List.mem_map.mp hd
  exact ⟨rfl, Nat.le_of_ble_eq_true rfl⟩
theorem ne_bools {K : PySem.W.Frag} {H : Hp} {a b : Addr} {Q : VK} (bs : List Bool) (h1 : H a = some (.lst (bs.map V.bl))) (h2 : H b = some (.lst (bs.map V.bl))) (q : Q (.bl false) H) : rNeD K (.ref a) (.ref b) H Q :=
  ⟨_, _, .lst (SqL.of h1) (dpAll_bools bs), .lst (SqL.of h2) (dpAll_bools bs), shaped_bools bs, shaped_bools bs, by rw [eqv_same (shaped_bools bs)]; exact q⟩
end Kx

set_option Elab.async false
set_option linter.all false
set_option maxRecDepth 100000
set_option maxHeartbeats 4000000
set_option exponentiation.threshold 4000
/-! Caught errors that are kept behind their clause. -/
namespace Kx
open PySem PySem.Spec PyProof.Rows L2
/-- an exception object at a: its class, its dict -/
def ExK (cls : Value) (d : Option Addr) (a : Addr) : HO := .ext fun h => ∃ (oe : Obj) (vs : Array Value), h.get? a = some oe ∧ Zc cls d oe ∧ oe.data = .fields vs
theorem exK_ok {P : Program} {w : World} {H : Hp} {h : Heap} {a : Addr} {cls : Value} {d : Option Addr} {oe : Obj} {vs : Array Value} (e : h.get? a = some oe) (z : Zc cls d oe) (dd : oe.data = .fields vs) : ObjOk P w H h a (ExK cls d a) :=
  ⟨⟨oe, vs, e, z, dd⟩, ⟨oe, e⟩, fun _ _ ⟨o, v, q, r⟩ k => ⟨o, v, k o q, r⟩⟩
theorem exK_at {P : Program} {w : World} {H : Hp} {h : Heap} {a : Addr} {cls : Value} {d : Option Addr} (hok : HOk P w H h) (e : H a = some (ExK cls d a)) : ∃ (oe : Obj) (vs : Array Value), h.get? a = some oe ∧ Zc cls d oe ∧ oe.data = .fields vs := by
  have x : ObjOk P w H h a (.ext fun h => ∃ (oe : Obj) (vs : Array Value), h.get? a = some oe ∧ Zc cls d oe ∧ oe.data = .fields vs) := hok a _ e
  exact x.1
section
variable {X : Cx} {pins : List (Addr × Obj)} {σ : SV} {H : Hp} {s : Shared}
theorem inv_suite0 (I : Inv X pins σ H s) (a : Addr) : Inv (X.suite a (X.pn ++ pins)) [] σ H s :=
  ⟨I.ok.suite _ _, I.os, I.bare, I.base, I.loc, I.cell, I.free, I.freeC, fun p hp => I.pin p (by rw [List.append_nil] at hp; exact hp), I.hok, I.len⟩
theorem inv_unsuite0 {a : Addr} {pn' : List (Addr × Obj)} (I : Inv (X.suite a (X.pn ++ pins)) pn' σ H s) (ok : X.Ok) : Inv X pins σ H s :=
  ⟨ok, I.os, I.bare, I.base, I.loc, I.cell, I.free, I.freeC, fun p hp => I.pin p (List.mem_append_left _ hp), I.hok, I.len⟩
end
/-- what the clause 'except x as n' wishes where the exception stays tracked -/
def wKeep (K : PySem.W.Frag) (c : Value) (i : Nat) (ts : Addr → Value → Option Addr → TS) (Wout : WX) (D : Ends) : WX := fun cls d σ H =>
  ∃ b, PySem.W.exmOne K cls c = some b ∧ (b = true → ∀ a, H a = none → ts a cls d { nx := fun σ' H' => D.nx (σ'.set i none) H', rt := D.rt, bk := fun σ' H' => D.bk (σ'.set i none) H', ct := fun σ' H' => D.ct (σ'.set i none) H' } (σ.set i (some (.ref a))) (upd H a (ExK cls d a))) ∧
    (b = false → Wout cls d σ H)
section
variable {X : Cx} {x n : Str} {c : Value} {i : Nat} {body suite : List Stmt} {b₀ : Stmt} {np pos pos' : Pos} {tb : WX → TS} {ts : Addr → Value → Option Addr → TS} {Wout : WX}
theorem ps_try_keep (hs : X.stack = X.env :: X.outer) (hf : X.env.frame = some X.env.locals) (hN : X.N.Nodup) (hi : X.N[i]? = some n) (hln : X.env.kindOf n = some .local) (hc : Names X x c) (tk : Takes X Wout)
    (hb : ∀ (W : WX) (pn : List (Addr × Obj)) (xe : Value → Shared → Prop), Takes (X.tr pn xe) W → PassesOwn (model X.prog X.w) X.A X.env xe → PSs (X.tr pn xe) body (tb W))
    (hsu : ∀ (a : Addr) (cls : Value) (d : Option Addr) (pn : List (Addr × Obj)), PSs (X.suite a pn) (b₀ :: suite) (ts a cls d)) :
    PS X (.Try body [.ExceptHandler (some (.Name x np)) (some n) (b₀ :: suite) pos'] [] [] pos) (fun D σ H => tb (wKeep X.K c i ts Wout D) D σ H) := by
  refine ⟨fun pins s σ H D I h => ?_⟩
  have ok := I.ok
  have hfr : X.A.frames = some (X.env :: X.outer) := by rw [ok.frames, hs]
  have hloc : Loc X.env.scope n := .inl hln
  refine wpAny_Try_except ?_
  refine wpAny_mono ((hb (wKeep X.K c i ts Wout D) (X.pn ++ pins) (fun e s₁ => wpAny (model X.prog X.w) X.A (noteFrame e X.env) (fun _ s₂ => wpAny (model X.prog X.w) X.A (setFlight e none) (fun _ s₃ =>
    wpAny (model X.prog X.w) X.A (handleBy e X.env [.ExceptHandler (some (.Name x np)) (some n) (b₀ :: suite) pos']) (SP X pins D) X.xe s₃) X.xe s₂) X.xe s₁) (fun u s' xx => ?_) PassesOwn.looking).run [] s σ H D (I.toTry _) h) (fun f s1 hsp => ?_) (fun e s1 he => he)
  · -- the catch
    obtain ⟨a, B, sI, pins', σ', H', cls, d, rfl, J', nb, up, sky, na, os, ag, b, hb1, hyes, hno⟩ := xx
    have J : Inv X pins σ' H' sI := J'.ofTry ok
    have sky' : Sky B (X.env :: X.outer) a (Zc cls d) X.env.locals s'.heap := by rw [← hs]; exact sky
    show wpAny (model X.prog X.w) X.A (noteFrame (.ref a) X.env) _ _ _
    refine Sky.land Zc.steady hfr hf sky' fun h3 fl3 up3 => ?_
    have J3 : Inv X pins σ' H' { s' with heap := h3 } := J.landed nb fl3.1 (up.trans up3) os ag
    obtain ⟨oe3, vs3, he3, hz3, hd3⟩ := fl3.there
    have notFr : ∀ {h : Heap} {o : Obj} {vs : Array Value}, h.FunFrames B (X.env :: X.outer) → h.get? a = some o → o.data = .fields vs → a ∉ frs (X.env :: X.outer) := fun {h o vs} ff e dd hm => by
      obtain ⟨_, o', e', hnf⟩ := ff.mem hm
      rw [e] at e'; cases e'
      exact hnf _ dd
    have nfr := notFr fl3.2.2.1 he3 hd3
    have nL : a ≠ X.env.locals := fun z => nfr (List.mem_filterMap.mpr ⟨X.env, List.mem_cons_self, by rw [hf, z]⟩)
    have nF : a ∉ X.fs := fun hm => by
      obtain ⟨e, he, q⟩ := List.mem_filterMap.mp hm
      exact nfr (List.mem_filterMap.mpr ⟨e, List.mem_cons_of_mem _ he, q⟩)
    have S3 := J3.suite he3 hd3 na nL nF
    refine wpAny_handleBy_cons (codeAny_handlers_test ?_) (by intro q; cases q)
    have LT : PySem.W.Looks (model X.prog X.w) h3 (typeOf (.ref a)) cls := fun A Q E s k q => wpAny_typeOf_ref (k _ _ he3) (by rw [hz3.1]; exact q)
    have LM := PySem.W.exm_one (M := model X.prog X.w) (J3.kIn) LT hb1
    have test : ∀ {Q : Value → Shared → Prop} {E : Value → Shared → Prop}, Q c { s' with heap := h3 } → wpAny (model X.prog X.w) (X.A.mark (some (.ref a))) (eval (.Name x np) X.env) Q E { s' with heap := h3 } := fun {Q E} q => by
      obtain ⟨hg, hdbg, hm | ⟨hm, hv, hnn⟩⟩ := hc
      · exact ld_glob (X := X.suite a ((a, oe3) :: (X.pn ++ pins))) S3 hg hm q hdbg
      · exact ld_blt (X := X.suite a ((a, oe3) :: (X.pn ++ pins))) S3 hg hm hv q hnn hdbg
    refine test (LM.here ?_)
    cases b with
    | true =>
      refine codeAny_handlers_suite_as ?_
      refine HandSPX.lands_againZ fl3 fun h4 fl4 up4 => ?_
      obtain ⟨oe4, vs4, he4, hz4, hd4⟩ := fl4.there
      have nB : B.get? a = none := fl4.2.1
      have nI : sI.heap.get? a = none := by
        cases e : sI.heap.get? a with
        | none => rfl
        | some o =>
          have hnfr : a ∉ frs X.stack := by rw [hs]; exact nfr
          have z := nb a o e hnfr
          rw [nB] at z
          cases z
      obtain ⟨G, g1, g2⟩ := restrict h4 fun b => decide (b ≠ a)
      have gk : ∀ b, b ≠ a → G.get? b = h4.get? b := fun b hb => g1 b (decide_eq_true hb)
      have ga : G.get? a = none := g2 a (by simp)
      have gs : ∀ b o, G.get? b = some o → h4.get? b = some o := fun b o e => by
        by_cases hb : b = a
        · rw [hb, ga] at e
          cases e
        · rw [← gk b hb]
          exact e
      have stG : B.StaysIn G := fun b o e => by
        have hb : b ≠ a := fun z => by
          rw [z, nB] at e
          cases e
        rw [gk b hb]
        exact fl4.1 b o e
      have upG : sI.heap.UpToSlots G := fun b o e hnd => by
        have hb : b ≠ a := fun z => by
          rw [z, nI] at e
          cases e
        obtain ⟨sl, q⟩ := ((up.trans up3).trans up4) b o e hnd
        exact ⟨sl, by rw [gk b hb]; exact q⟩
      have JG : Inv X pins σ' H' { s' with heap := G } := J.landed (s' := { s' with heap := G }) nb stG upG os ag
      have J4 : Inv X pins σ' (upd H' a (ExK cls d a)) { s' with heap := h4 } := Inv.laidN (s := { s' with heap := G }) (t' := s'.toks) JG gs ga na (exK_ok he4 hz4 hd4)
      have S4 := inv_suite0 J4 a
      refine store_ok (X := X.suite a (X.pn ++ pins)) (v := .ref a) S4 hN hi hloc rfl (fun s5 S5 => ?_) (.inr hln)
      refine wpAny_mono ((hsu a cls d (X.pn ++ pins)).run [] s5 _ _ _ S5 (hyes rfl a na)) (fun f s6 hsp => ?_) (fun _ _ z => False.elim z)
      have end_ : ∀ {σ6 : SV} {H6 : Hp} {Q : Shared → Prop}, Inv (X.suite a (X.pn ++ pins)) [] σ6 H6 s6 → (∀ s7, Inv X pins (σ6.set i none) H6 s7 → Q s7) →
          wpAny (model X.prog X.w) X.A (do bindName X.env n .none; unbindBehindTheSuite X.env n pos') (fun _ s7 => Q s7) X.xe s6 := fun {σ6 H6 Q} S6 hq => gone_ok (inv_unsuite0 S6 ok) hN hi hln hq
      cases f with
      | next =>
        obtain ⟨σ6, H6, S6, q6⟩ := hsp
        exact end_ S6 fun s7 J7 => ⟨_, _, J7, q6⟩
      | brk =>
        obtain ⟨σ6, H6, S6, q6⟩ := hsp
        exact end_ S6 fun s7 J7 => ⟨_, _, J7, q6⟩
      | cont =>
        obtain ⟨σ6, H6, S6, q6⟩ := hsp
        exact end_ S6 fun s7 J7 => ⟨_, _, J7, q6⟩
      | ret u =>
        obtain ⟨v6, σ6, H6, S6, r6, q6⟩ := hsp
        exact end_ S6 fun s7 J7 => ⟨_, _, _, J7, r6, q6⟩
    | false =>
      show wpAny _ X.A (handleBy (.ref a) X.env []) _ _ _
      refine wpAny_handleBy_nil ?_
      obtain ⟨k1, k2, k3, oe, vs, T, oT, ts', he, hz, hd, h1, hr⟩ := id fl3
      unfold PySem.passOn
      refine wpAny_bind (wpAny_field he hd h1 ?_)
      rw [if_neg (show ¬ ((Value.ref T == Value.none) = true) from by simp)]
      have fin : wpAny (model X.prog X.w) X.A (setFlight (.ref a) X.env.frame) (fun _ s4 => wpAny (model X.prog X.w) X.A (throw (.ref a) : Sem Flow) (SP X pins D) X.xe s4) X.xe { s' with heap := h3 } := by
        rw [hf]
        refine HandSPX.setFlight_upZ fl3 fun h4 hh4 up4 => wpAny_throw (tk _ _ ?_)
        exact ⟨a, B, sI, pins, σ', H', cls, d, rfl, J, nb, (up.trans up3).trans up4, .inr (.inr (by rw [hs]; exact hh4)), na, os, ag, hno rfl⟩
      first
        | exact wpAny_bind (wpAny_pure (wpAny_bind fin))
        | exact wpAny_bind fin
  · cases f with
    | next =>
      obtain ⟨σ', H', J', q⟩ := hsp
      exact wpAny_execs_nil ⟨σ', H', J'.ofTry ok, q⟩
    | brk =>
      obtain ⟨σ', H', J', q⟩ := hsp
      exact ⟨σ', H', J'.ofTry ok, q⟩
    | cont =>
      obtain ⟨σ', H', J', q⟩ := hsp
      exact ⟨σ', H', J'.ofTry ok, q⟩
    | ret u =>
      obtain ⟨v, σ', H', J', r, q⟩ := hsp
      exact ⟨v, σ', H', J'.ofTry ok, r, q⟩
end
/-! ### what is asked of a kept exception -/
/-- isinstance(e, c) -/
def rIsK (K : PySem.W.Frag) : List V → Hp → VK → Prop := fun xs H Q => ∃ (a D : Addr) (dd : Addr) (fs : List (Str × V)) (c : V) (cv : Value) (b : Bool), xs = [.ref a, c] ∧ H a = some (ExK (.ref D) (some dd) a) ∧ H dd = some (.xd fs) ∧ L2.ExcC K D ∧ (∀ u, RelV c u → u = cv) ∧ PySem.W.kitOne K (.ref D) cv = some b ∧ Q (.bl b) H
theorem call_isK {X : Cx} : CallR X (.builtin "isinstance") (rIsK X.K) := by
  intro pins s σ H xs us Q I r h
  obtain ⟨a, D, dd, fs, c, cv, b, rfl, ha, hdd, C, hcv, e, q⟩ := h
  cases r with
  | cons rx rr =>
    cases rr with
    | cons rt rr =>
      cases rr
      cases rx
      have ec := hcv _ rt
      subst ec
      obtain ⟨oe, vs, hget, hz, hv⟩ := exK_at I.hok ha
      have hx : ObjOk X.prog X.w H s.heap dd (.xd fs) := I.hok dd _ hdd
      obtain ⟨mA, hns, hr⟩ := hx
      obtain ⟨od, ho, hl⟩ := lookIn_ns hns
      have J : PySem.W.InstAt s.heap a oe D (some od) := ⟨hget, hz.1, by unfold PySem.W.notCls; rw [hv] <;> rfl, by rw [hz.2]; exact ho⟩
      obtain ⟨cd, hcd, _⟩ := PySem.W.any_some C.hd
      exact PySem.W.kia_one (PySem.W.kitx_exc (by rw [hcd]; rfl) C.hg C.hk C.hs C.ha C.hn C.ht C.hm) I.kIn J e (fun z => nomatch z) fun tk => ⟨.bl b, H, I.kept (t' := tk) fun _ _ z => z, rfl, q⟩
/-- e.f -/
def tXk (K : PySem.W.Frag) (f : Str) (te : TE) : TE := fun σ H Q => te σ H fun x H1 => ∃ (a C dd : Addr) (fs : List (Str × V)) (v : V), x = .ref a ∧ H1 a = some (ExK (.ref C) (some dd) a) ∧ XfC K C ∧ PySem.W.findIn K (.ref C) f = some none ∧ H1 dd = some (.xd fs) ∧ fs.lookup f = some v ∧ Q v H1
theorem pe_xk {X : Cx} {e : Expr} {te : TE} {pos : Pos} {n : Str} (he : PE X e te) (hb : attributeBase e n X.env (eval e X.env) = eval e X.env := by rfl) : PE X (.Attribute e n pos) (tXk X.K n te) := by
  refine ⟨fun pins s σ H Q I h => ?_⟩
  refine attr_of hb (thn (he.run pins s σ H _ I h) fun u s1 hh => ?_)
  obtain ⟨x, H1, I1, rx, a, C, dd, fs, v, ex, ha, T, hno, ea, l, q⟩ := hh
  subst ex
  obtain rfl : u = Value.ref a := rx
  obtain ⟨oe, vs, hget, hz, hd⟩ := exK_at I1.hok ha
  have hx : ObjOk X.prog X.w H1 s1.heap dd (.xd fs) := I1.hok dd _ ea
  obtain ⟨mA, hns, hr⟩ := hx
  obtain ⟨od, ho, hl⟩ := lookIn_ns hns
  obtain ⟨u, hu, ru⟩ := RelO.some_of (v := v) (o := mA n) (by rw [← l]; exact hr n)
  have J : PySem.W.InstAt s1.heap a oe C (some od) := ⟨hget, hz.1, by unfold PySem.W.notCls; rw [hd] <;> rfl, by rw [hz.2]; exact ho⟩
  exact HandSPX.exc_get I1.kIn J T.ga T.gg T.exC (PySem.W.findObj_own T.hdC hno rfl (by rw [hl, hu])) (handed_of ru) ⟨v, H1, I1.tok _, ru, q⟩
end Kx
namespace Kx
open PySem PySem.Spec PyProof.Rows L2
def tMono (t : TA) : TA := fun σ H Q => ∃ Q0 : List V → Hp → Prop, t σ H Q0 ∧ ∀ vs H1, Q0 vs H1 → Q vs H1
theorem pa_mono {X : Cx} {es : List Expr} {t : TA} (h : PA X es t) : PA X es (tMono t) := ⟨fun pos pins s σ H Q I ⟨Q0, h0, m⟩ => thn (h.run pos pins s σ H Q0 I h0) fun us s1 ⟨vs, H1, I1, r, q⟩ => ⟨vs, H1, I1, r, m vs H1 q⟩⟩
/-- self.value = value -/
def spInit (C : Addr) : Sp := fun vs H Q _ => ∃ (a : Addr) (v : V), vs = [.ref a, v] ∧ H a = some (exo a C none) ∧ ∀ dx, H dx = none → dx ≠ a → Q .non (upd (upd H dx (exd dx [("value", v)])) a (exo a C (some dx)))
/-- a class of errors that bear one value -/
structure ErrC (P : Program) (w : World) (K : PySem.W.Frag) (mg : Str → Option Value) (base : Heap) (x : Str) (C : Addr) : Prop where
  ex : ∃ (fI : Addr) (fd : FuncData), PySem.W.findIn K (.ref C) "__init__" = some (some (.ref fI)) ∧ PySem.W.typeIn K (.ref fI) = some (.type "function") ∧ FnOk P w K mg base CX0 1 fI fd ["self", "value"] (spInit C) ∧ Binds K fd ["self", "value"] []
  T : OexC K C
  m : mg x = some (.ref C)
  xf : XfC K C
  ec : L2.ExcC K C
  nv : PySem.W.findIn K (.ref C) "value" = some none
def tErr (C : Addr) (ta : TA) : SV → Hp → XK → Prop := fun σ H Q => ta σ H fun vs H1 => ∃ v, vs = [v] ∧ ∀ d, H1 d = none → Q (.ref C) (some d) (upd H1 d (.xd [("value", v)]))
theorem pmk_err {X : Cx} {j : Nat} {x : Str} {C : Addr} {e : Expr} {ta : TA} {p pos : Pos} (E : ErrC X.prog X.w X.K X.mg X.base x C) (hr : Room j X.A) (ha : PA X [e] ta) (hj : 2 ≤ j := by decide) (hg : Gl X x := by rfl) (hdb : (x == ("__debug__" : Str)) = false := by decide)
    (he : starEach [e] X.env = (false, eval e X.env) :: starEach [] X.env := by rfl) (hpl : (backTo pos (starEach [] X.env)).any (·.1) = false := by rfl) : PMk X (.Call (.Name x p) [e] [] pos) (tErr C ta) := by
  intro pins s σ H Q I h
  obtain ⟨fI, fd, iC, tI, F1, hb⟩ := E.ex
  refine pmk_oex (dvs := []) (ds := []) E.T iC tI F1 (hr.mono hj) hb .nil pass0 hg E.m (pa_mono ha) hdb he hpl pins s σ H Q I ?_
  refine ⟨_, h, fun vs H1 z => ?_⟩
  obtain ⟨v, rfl, k⟩ := z
  refine ⟨show 1 ≤ 1000 by decide, fun a na => ⟨a, v, rfl, upd_same, fun dx ndx hne => ⟨rfl, dx, [("value", v)], upd_same, ?_, ?_, ?_⟩⟩⟩
  · rw [upd_ne hne]
    exact upd_same
  · rw [upd_ne hne] at ndx
    exact ndx
  · have hd : H1 dx = none := by
      rw [upd_ne hne] at ndx
      exact ndx
    have e1 : upd (L2.del (upd (upd (upd H1 a (exo a C none)) dx (exd dx [("value", v)])) a (exo a C (some dx))) a) dx (.xd [("value", v)]) = upd H1 dx (.xd [("value", v)]) := by
      funext b
      by_cases hb : b = dx
      · rw [hb, upd_same, upd_same]
      · rw [upd_ne hb, upd_ne hb]
        by_cases hba : b = a
        · rw [hba, L2.del_same]
          exact na.symm
        · rw [L2.del_ne hba, upd_ne hba, upd_ne hb, upd_ne hba]
    rw [e1]
    exact k dx hd
/-! ### defs that may raise -/
structure DefX (P : Program) (w : World) (K : PySem.W.Frag) (mg : Str → Option Value) (base : Heap) (k : Nat) (x : Str) (f : Addr) (fd : FuncData) (ps : List Str) (sp : Sp) : Prop where
  F : FnOk P w K mg base (L2.CX P w) k f fd ps sp
  m : mg x = some (.ref f)
  kp : PySem.W.keepIn K (.ref f) = true
  b : Binds K fd ps []
/-- .. by its address -/
def FnAt (P : Program) (w : World) (K : PySem.W.Frag) (mg : Str → Option Value) (base : Heap) (j : Nat) (f : Addr) (sp : Sp) : Prop :=
  ∃ (k : Nat) (fd : FuncData) (ps : List Str), k ≤ j ∧ FnOk P w K mg base (L2.CX P w) k f fd ps sp ∧ PySem.W.keepIn K (.ref f) = true ∧ Binds K fd ps []
section
variable {X : Cx} {W : WX} {k j : Nat} {f : Addr} {fd : FuncData} {ps : List Str} {sp : Sp} {x : Str} {p pos : Pos} {a b e : Expr} {es : List Expr} {t : TA} {tf : TE}
theorem DefX.at' {P : Program} {w : World} {K : PySem.W.Frag} {mg : Str → Option Value} {base : Heap} (D : DefX P w K mg base k x f fd ps sp) (h : k ≤ j := by decide) : FnAt P w K mg base j f sp := ⟨k, fd, ps, h, D.F, D.kp, D.b⟩
theorem pe_dS (D : DefX X.prog X.w X.K X.mg X.base k x f fd ps sp) (tk : Takes X W) (hr : Room j X.A) (ha : PA X (e :: es) t) (hkj : k ≤ j := by decide) (hg : Gl X x := by rfl) (hdb : (x == ("__debug__" : Str)) = false := by decide)
    (he : starEach (e :: es) X.env = (false, eval e X.env) :: starEach es X.env := by rfl) (hpl : (backTo pos (starEach es X.env)).any (·.1) = false := by rfl) : PE X (.Call (.Name x p) (e :: es) [] pos) (tCallS sp (WE W) t) :=
  pe_callS D.F (hr.mono hkj) hg D.m D.kp D.b (fun σ => passAt tk σ) ha hdb he hpl
/-- [f, g, ..][i](e, ..) -/
def tIxCall (P : Program) (w : World) (K : PySem.W.Frag) (mg : Str → Option Value) (base : Heap) (j : Nat) (E : SV → XK) (tf : TE) (t : TA) : TE := fun σ H Q => tf σ H fun x H1 => ∃ (f : Addr) (sp : Sp), x = .ref f ∧ FnAt P w K mg base j f sp ∧ t σ H1 fun vs H2 => sp vs H2 Q (E σ)
theorem pe_ixcall (hf : PE X (.Subscript a b p) tf) (tk : Takes X W) (hr : Room j X.A) (ha : PA X (e :: es) t) (he : starEach (e :: es) X.env = (false, eval e X.env) :: starEach es X.env := by rfl) (hpl : (backTo pos (starEach es X.env)).any (·.1) = false := by rfl) :
    PE X (.Call (.Subscript a b p) (e :: es) [] pos) (tIxCall X.prog X.w X.K X.mg X.base j (WE W) tf t) := by
  refine ⟨fun pins s σ H Q I h => ?_⟩
  have ev : eval (.Call (.Subscript a b p) (e :: es) [] pos) X.env = (do callWith pos (← eval (.Subscript a b p) X.env) [] (backTo pos (starEach (e :: es) X.env)) (backToKw pos (keywordEach [] X.env))) := rfl
  rw [ev]
  refine wpAny_bind (thn (hf.run pins s σ H _ I h) fun u s1 hh => ?_)
  obtain ⟨x, H1, I1, rx, f, sp, ex, ⟨k, fd, ps, hk, F, kp, hb⟩, q⟩ := hh
  subst ex
  obtain rfl : u = Value.ref f := rx
  refine PySem.W.callWith_K (h₀ := X.base) I1.ok.mod.kin kp (thn (ha.run pos pins s1 σ H1 _ I1 q) fun us s2 ⟨vs, H2, I2, r, q2⟩ => ⟨I2.kIn, ?_⟩) he hpl
  exact run_fnS F (hr.mono hk) hb (passAt tk σ) I2 r q2
end
/-- the body of a def that may raise takes what it wishes -/
theorem takes_def {P : Program} {w : World} {K : PySem.W.Frag} {mg : Str → Option Value} {base : Heap} {N : List Str} {qual : Str} {sc : Scope} {f : Addr} {cd : Value} {A : Around} {outer : List Env} {s : Shared} {H : Hp} {E : XK} :
    Takes (cxOf (L2.CX P w) P w K mg base N qual sc f cd A outer s H E) (fun cls d _ H' => E cls d H') := takes_of rfl rfl rfl rfl
end Kx

set_option Elab.async false
set_option linter.all false
set_option maxRecDepth 100000
set_option maxHeartbeats 4000000
set_option exponentiation.threshold 4000
namespace PySem
namespace NX
open PySem.W PySem.Calls PyProof.Rows PySem.HandSPX
section
variable {M : Model} {A : Around} {E : Value → Shared → Prop} {h : Heap} {g : Array GenState} {d : Drawn} {t : Nat} {os : OsState}
variable {nm q : Str} {C N : Addr} {bs bm bmB : List Value} {hdct : Bool} {sn : List Str} {sub : List Value} {ab : Bool} {col : Option Bool} {dd : Option Addr} {k0 k1 k2 k3 k5 : Option Value} {B newId initId : String}
theorem check_new_kw (F : ExcBaseFacts B newId initId bmB) (hT : ∀ X : String, bm.contains (.type X) = bmB.contains (.type X)) {kn : Str} {kv : Value} {Q : Unit → Shared → Prop}
    (hC : h.get? C = some (excClassObj nm q C N bs bm hdct sn sub ab col dd k0 k1 k2 k3 k5 newId)) (hq : Q () ⟨h, g, d, t, os⟩) : wpAny M A (checkBuiltinCall newId ⟨[.ref C], [(kn, kv)]⟩) Q E ⟨h, g, d, t, os⟩ := by
  have hcont : (Value.ref C :: bm).contains (.type B) = true := by rw [List.contains_cons, hT, F.hasB, Bool.or_true]
  have hstar := F.noStar
  simp only [checkBuiltinCall, F.newKind, F.newSplit, F.newRow]
  repeat (first | refine wpAny_loadPart_at hC ?_ | (refine wpAny_isSubtype_exc hC ?_; rw [hcont]) | refine wpAny_staticBase_exc hC ?_ | refine wpAny_madeBy_exc hC ?_ | simp only [bne_self_eq_false, Bool.false_eq_true, if_false] | wp_step)
  exact hq
end
section
variable {prog : Program} {w : World} {A : Around} {E : Value → Shared → Prop} {R : Result → Shared → Prop} {h : Heap} {g : Array GenState} {d : Drawn} {t : Nat} {os : OsState}
variable {nm q : Str} {C N : Addr} {bs bm bmB : List Value} {hdct : Bool} {sn : List Str} {sub : List Value} {ab : Bool} {col : Option Bool} {dd : Option Addr} {k0 k1 k2 k3 k5 : Option Value} {B newId initId : String}
theorem new_kw (F : ExcBaseFacts B newId initId bmB) (hT : ∀ X : String, bm.contains (.type X) = bmB.contains (.type X)) {kn : Str} {kv : Value}
    (hC : h.get? C = some (excClassObj nm q C N bs bm hdct sn sub ab col dd k0 k1 k2 k3 k5 newId))
    (hq : R (.ok (.ret (.ref (h.objs.size + 1)))) ⟨(h.push { cls := .type "tuple", data := .seq ([] : List Value).toArray }).push
      { cls := .ref C, data := .fields #[.ref h.objs.size, .none, .none, .none, .bool false, .none] }, g, d, t, os⟩) :
    codeAny (model prog w) A (.builtin newId ⟨[.ref C], [(kn, kv)]⟩) R ⟨h, g, d, t, os⟩ := by
  have hends := F.ends
  have hcB : (Value.ref C :: bm).contains (.type B) = true := by rw [List.contains_cons, hT, F.hasB, Bool.or_true]
  have hcA : (Value.ref C :: bm).contains (.type "AttributeError") = false := by rw [List.contains_cons, hT, F.noAttr]; rfl
  have hcN : (Value.ref C :: bm).contains (.type "NameError") = false := by rw [List.contains_cons, hT, F.noName]; rfl
  have hrest : ([] : List Value).length ≤ sizeLine := by decide
  refine codeAny_builtinAt F.entry ?_
  unfold Builtin.«BaseException.__new__»
  refine wpAt_bind ?_
  show wpAt _ _ _ (stack >>= _) _ _ _
  refine wpAt_bind (wpAt_stack fun p below => wpAt_of_wpAny ?_)
  wp_walk
  refine wpAt_of_wpAny ?_
  rw [F.owner]
  repeat (first | with_reducible refine wpAny_madeHere_exc F.canon hC ?_ | with_reducible refine wpAny_loadPart_at hC ?_ | (with_reducible refine wpAny_isSubtype_exc hC ?_; first | rw [hcB] | rw [hcA] | rw [hcN]) | wp_step)
  show R _ _
  rw [Heap.size_push]
  exact hq
theorem type_call_kw (F : ExcBaseFacts B newId initId bmB) (hT : ∀ X : String, bm.contains (.type X) = bmB.contains (.type X)) {kn : Str} {kv : Value} {fI : Addr} {Q : Fin → Shared → Prop}
    (hC : h.get? C = some (excClassObj nm q C N bs bm hdct sn sub ab col dd k0 k1 k2 k3 k5 newId))
    (hi : W.Looks (model prog w) h (typeLookup (.ref C) "__init__") (some (.ref fI))) (hb : ∀ self, W.Looks (model prog w) h (bindSpecial (.ref fI) self) (.ref fI, [self]))
    (hq : codeAny (model prog w) A (.call (.ref fI) ⟨[.ref (h.objs.size + 1)], [(kn, kv)]⟩)
      (fun r s' => match r with | .ok (.ret v) => v = .none ∧ Q (.done (.ret (.ref (h.objs.size + 1)))) s' | .ok _ => False | .error e => E e s')
      ⟨(h.push (W.kdv_tup [])).push (excO C h.objs.size), g, d, t, os⟩) :
    wpAny (model prog w) A (Builtin.«type.__call__» ⟨[.ref C], [(kn, kv)]⟩) Q E ⟨h, g, d, t, os⟩ := by
  repeat (first | with_reducible refine wpAny_loadPart_at hC ?_ | with_reducible refine wpAny_madeBy_exc hC ?_ | wp_step)
  refine codeAny_call_builtin_code (Code.quiet_builtin _ F.quiet) (check_new_kw F hT hC ?_)
  refine new_kw F hT hC ?_
  show wpAny _ _ _ _ _ _
  have k : ∀ b o, h.get? b = some o → ((h.push (W.kdv_tup [])).push (excO C h.objs.size)).get? b = some o := fun b o e => Heap.get?_push_of_some _ (Heap.get?_push_of_some _ e)
  have hC₁ := k _ _ hC
  have hget : ((h.push (W.kdv_tup [])).push (excO C h.objs.size)).get? (h.objs.size + 1) = some (excO C h.objs.size) := by heap_get
  have hcC : (Value.ref C :: bm).contains (.ref C) = true := by simp
  have i1 := hi.keeps k
  have b1 := (hb (.ref (h.objs.size + 1))).keeps k
  unfold isInstance
  repeat (first | with_reducible refine wpAny_loadPart_at hget ?_ | (with_reducible refine wpAny_isSubtype_exc hC₁ ?_; rw [hcC]) | wp_step)
  show wpAny _ _ (typeLookup (.ref C) _) _ _ _
  refine i1.at ?_
  refine wpAny_holding (wpAny_bind (b1.at ?_))
  refine wpAny_bind (wpAny_call (codeAny_mono hq fun r s' z => ?_))
  rcases r with e | (v | _ | _ | _) <;> first | exact z | exact z.elim | skip
  obtain ⟨rfl, z⟩ := z
  first
    | exact wpAny_pure (wpAny_pure z)
    | (wp_walk; exact z)
theorem call_kw (F : ExcBaseFacts B newId initId bmB) (hT : ∀ X : String, bm.contains (.type X) = bmB.contains (.type X)) {kn : Str} {kv : Value} {fI : Addr}
    (hC : h.get? C = some (excClassObj nm q C N bs bm hdct sn sub ab col dd k0 k1 k2 k3 k5 newId))
    (hi : W.Looks (model prog w) h (typeLookup (.ref C) "__init__") (some (.ref fI))) (hb : ∀ self, W.Looks (model prog w) h (bindSpecial (.ref fI) self) (.ref fI, [self]))
    (hq : codeAny (model prog w) (A.under (.builtin "type.__call__" ⟨[.ref C], [(kn, kv)]⟩)) (.call (.ref fI) ⟨[.ref (h.objs.size + 1)], [(kn, kv)]⟩) (W.InitBack (h.objs.size + 1) R)
      ⟨(h.push (W.kdv_tup [])).push (excO C h.objs.size), g, d, t, os⟩) :
    codeAny (model prog w) A (.call (.ref C) ⟨[], [(kn, kv)]⟩) R ⟨h, g, d, t, os⟩ := by
  have f1 := tc_lookup
  have f2 := tc_bind (.ref C)
  have hTy : (⟨h, g, d, t, os⟩ : Shared).TypeIs (.ref C) "type" := ⟨_, hC, rfl⟩
  refine codeAny_of_tree ?_
  show wpAny _ _ (callAny (.ref C) _) _ _ _
  repeat (any_goals (first | assumption | with_reducible refine wpAny_loadPart_at hC ?_ | wp_step))
  refine ⟨rfl, ?_⟩
  refine codeAny_call_builtin_at (Code.quiet_builtin _ (by decide +kernel)) entry_typeCall (wpAny_check_type_call_sub hC (type_call_kw F hT hC hi hb ?_))
  refine codeAny_mono hq fun r s' z => ?_
  rcases r with e | (v | _ | _ | _) <;> exact z
end
end NX
end PySem
namespace Kx
open PySem PySem.Spec PyProof.Rows L2
/-- an error made, not raised -/
structure Made (H1 H2 : Hp) (C a dx : Addr) (v : V) : Prop where
  na : H1 a = none
  nd : H1 dx = none
  ne : dx ≠ a
  ea : H2 a = some (exo a C (some dx))
  ed : H2 dx = some (exd dx [("value", v)])
  sm : Same H1 H2
/-- a class of errors with its own __init__ -/
structure ErrN (P : Program) (w : World) (K : PySem.W.Frag) (mg : Str → Option Value) (base : Heap) (x : Str) (C fI : Addr) (fd : FuncData) : Prop where
  iC : PySem.W.findIn K (.ref C) "__init__" = some (some (.ref fI))
  tI : PySem.W.typeIn K (.ref fI) = some (.type "function")
  F : FnOk P w K mg base CX0 1 fI fd ["self", "value"] (spInit C)
  b1 : Binds K fd ["self", "value"] []
  b0 : ∃ ds, Vals [V.non] ds ∧ Binds K fd ["self", "value"] ds
  bk : ∀ (s : Shared) (u v : Value), K.In s.heap → BindsTo s fd ⟨[u], [("value", v)]⟩ [("self", u), ("value", v)]
  T : OexC K C
  m : mg x = some (.ref C)
  xf : XfC K C
  ec : L2.ExcC K C
  nv : PySem.W.findIn K (.ref C) "value" = some none
section
variable {X : Cx} {pins : List (Addr × Obj)} {σ : SV} {H : Hp} {s : Shared} {x : Str} {C fI : Addr} {fd : FuncData} {j : Nat} {p pos : Pos} {e : Expr} {ta : TA} {te : TE} {Q : VK}
/-- the __init__'s own promise, met -/
theorem init_hq {v : V} {a : Addr} (na : H a = none) (k : ∀ a dx H2, Made H H2 C a dx v → Q (.ref a) H2) : spInit C [.ref a, v] (upd H a (exo a C none)) (fun r H2 => r = .non ∧ Q (.ref a) H2) (fun _ _ _ => False) := by
  refine ⟨a, v, rfl, upd_same, fun dx ndx hne => ⟨rfl, k a dx _ ⟨na, ?_, hne, upd_same, ?_, fun b u eb => ?_⟩⟩⟩
  · rw [upd_ne hne] at ndx
    exact ndx
  · rw [upd_ne hne]
    exact upd_same
  · have hba := ne_of_none eb na
    have hd : H dx = none := by
      rw [upd_ne hne] at ndx
      exact ndx
    rw [upd_ne hba, upd_ne (ne_of_none eb hd), upd_ne hba]
    exact eb
theorem run_new {us ds : List Value} {vs dvs : List V} {v : V} (E : ErrN X.prog X.w X.K X.mg X.base x C fI fd) (hr : Room j X.A) (hj : 2 ≤ j) (hb : Binds X.K fd ["self", "value"] ds) (hd : Vals dvs ds) (I : Inv X pins σ H s) (r : Vals vs us) (hv : vs ++ dvs = [v])
    (k : ∀ a dx H2, Made H H2 C a dx v → Q (.ref a) H2) : wpAny (model X.prog X.w) X.A (call (.ref C) us) (EP X pins σ Q) X.xe s := by
  obtain ⟨nm, q, N, bs, bm, sn, sub, ab, col, dd, k0, k1, k2, k3, k5, hC, hbm⟩ := E.T.cls
  obtain ⟨hp, g, dr, tk, os⟩ := s
  have hsz : hp.objs.size ≤ hp.objs.size + 1 := Nat.le_succ _
  have hn : H (hp.objs.size + 1) = none := I.hok.fresh hsz
  have hq := init_hq (Q := Q) (v := v) hn k
  have kk : ∀ b o, hp.get? b = some o → ((hp.push (PySem.W.kdv_tup us)).push (PySem.HandSPX.excO C hp.objs.size)).get? b = some o := fun b o e => Heap.get?_push_of_some _ (Heap.get?_push_of_some _ e)
  have hget : ((hp.push (PySem.W.kdv_tup us)).push (PySem.HandSPX.excO C hp.objs.size)).get? (hp.objs.size + 1) = some (PySem.HandSPX.excO C hp.objs.size) := by heap_get
  have I2 : Inv X pins σ (upd H (hp.objs.size + 1) (exo (hp.objs.size + 1) C none)) ⟨(hp.push (PySem.W.kdv_tup us)).push (PySem.HandSPX.excO C hp.objs.size), g, dr, tk, os⟩ :=
    I.laid (t' := tk) (a := hp.objs.size + 1) (o := exo (hp.objs.size + 1) C none) (h' := (hp.push (PySem.W.kdv_tup us)).push (PySem.HandSPX.excO C hp.objs.size)) kk hsz (exo_ok hget)
  have r2 : Vals (V.ref (hp.objs.size + 1) :: (vs ++ dvs)) (Value.ref (hp.objs.size + 1) :: (us ++ ds)) := .cons rfl (r.append hd)
  rw [hv] at r2
  have hl : (Value.ref (hp.objs.size + 1) :: us ++ ds).length = ["self", "value"].length := by
    have e := r2.length
    exact e.symm
  have hus : us.length ≤ sizeLine := by
    have e := r2.length
    simp only [List.length_cons, List.length_append, List.length_nil] at e
    rw [sizeLine_eq]
    omega
  refine wpAny_call (PySem.HandSPX.call_own F.excBase_ValueError (fun Y => PySem.HandSPX.refsVE_contains Y bm hbm) (I.kIn _ _ hC) (PySem.W.looks_findIn I.kIn E.iC) (fun self => PySem.W.bind_fn I.kIn self E.tI) hus
    (codeAny_mono (E.F.run _ X.stack _ _ ⟨Value.ref (hp.objs.size + 1) :: us, []⟩ (Value.ref (hp.objs.size + 1) :: (us ++ ds)) _ _ (fun _ _ _ => False) ((hr.mono hj).make C us []) (I2.env0.make C us []) (hb _ (Value.ref (hp.objs.size + 1) :: us) I2.kIn hl) r2 hq) fun r s' hq' => ?_))
  cases r with
  | error er => exact False.elim hq'
  | ok fl =>
    cases fl with
    | ret u =>
      obtain ⟨v', H', I3, rv, ev, q3⟩ := I2.after hq'
      subst ev
      exact ⟨rv, ⟨V.ref (hp.objs.size + 1), H', I3, rfl, q3⟩⟩
    | next => exact False.elim hq'
    | brk => exact False.elim hq'
    | cont => exact False.elim hq'
def tNew (C : Addr) (dvs : List V) (t : TA) : TE := fun σ H Q => t σ H fun vs H1 => ∃ v, vs ++ dvs = [v] ∧ ∀ a dx H2, Made H1 H2 C a dx v → Q (.ref a) H2
/-- C(e) -/
theorem pe_new1 (E : ErrN X.prog X.w X.K X.mg X.base x C fI fd) (hr : Room j X.A) (ha : PA X [e] ta) (hj : 2 ≤ j := by decide) (hg : Gl X x := by rfl) (hdb : (x == ("__debug__" : Str)) = false := by decide)
    (he : starEach [e] X.env = (false, eval e X.env) :: starEach [] X.env := by rfl) (hpl : (backTo pos (starEach [] X.env)).any (·.1) = false := by rfl) : PE X (.Call (.Name x p) [e] [] pos) (tNew C [] ta) := by
  refine ⟨fun pins s σ H Q I h => ?_⟩
  refine wpAny_Call_Name_kw (ld_glob I hg E.m ?_ hdb)
  refine PySem.W.callWith_K (h₀ := X.base) I.ok.mod.kin E.T.kC (thn (ha.run pos pins s σ H _ I h) fun us s1 ⟨vs, H1, I1, r1, v, ev, k⟩ => ⟨I1.kIn, ?_⟩) he hpl
  exact run_new E hr hj E.b1 .nil I1 r1 ev k
/-- C() -/
theorem pe_new0 (E : ErrN X.prog X.w X.K X.mg X.base x C fI fd) (hr : Room j X.A) (hj : 2 ≤ j := by decide) (hg : Gl X x := by rfl) (hdb : (x == ("__debug__" : Str)) = false := by decide) : PE X (.Call (.Name x p) [] [] pos) (tNew C [.non] tNil) := by
  refine ⟨fun pins s σ H Q I h => ?_⟩
  refine wpAny_Call_Name_kw (ld_glob I hg E.m ?_ hdb)
  obtain ⟨v, ev, k⟩ := h
  obtain ⟨ds, hd, hb⟩ := E.b0
  exact PySem.W.callWith_K0 I.kIn E.T.kC (run_new (us := []) E hr hj hb hd I .nil ev k)
def tNewK (C : Addr) (t : TA) : TE := fun σ H Q => t σ H fun zs H1 => ∃ v, zs = [v] ∧ ∀ a dx H2, Made H1 H2 C a dx v → Q (.ref a) H2
theorem run_newK {u : Value} {v : V} (E : ErrN X.prog X.w X.K X.mg X.base x C fI fd) (hr : Room j X.A) (hj : 2 ≤ j) (I : Inv X pins σ H s) (ru : RelV v u)
    (k : ∀ a dx H2, Made H H2 C a dx v → Q (.ref a) H2) : wpAny (model X.prog X.w) X.A (call (.ref C) [] [("value", u)]) (EP X pins σ Q) X.xe s := by
  obtain ⟨nm, q, N, bs, bm, sn, sub, ab, col, dd, k0, k1, k2, k3, k5, hC, hbm⟩ := E.T.cls
  obtain ⟨hp, g, dr, tk, os⟩ := s
  have hsz : hp.objs.size ≤ hp.objs.size + 1 := Nat.le_succ _
  have hn : H (hp.objs.size + 1) = none := I.hok.fresh hsz
  have hq := init_hq (Q := Q) (v := v) hn k
  have kk : ∀ b o, hp.get? b = some o → ((hp.push (PySem.W.kdv_tup [])).push (PySem.HandSPX.excO C hp.objs.size)).get? b = some o := fun b o e => Heap.get?_push_of_some _ (Heap.get?_push_of_some _ e)
  have hget : ((hp.push (PySem.W.kdv_tup [])).push (PySem.HandSPX.excO C hp.objs.size)).get? (hp.objs.size + 1) = some (PySem.HandSPX.excO C hp.objs.size) := by heap_get
  have I2 : Inv X pins σ (upd H (hp.objs.size + 1) (exo (hp.objs.size + 1) C none)) ⟨(hp.push (PySem.W.kdv_tup [])).push (PySem.HandSPX.excO C hp.objs.size), g, dr, tk, os⟩ :=
    I.laid (t' := tk) (a := hp.objs.size + 1) (o := exo (hp.objs.size + 1) C none) (h' := (hp.push (PySem.W.kdv_tup [])).push (PySem.HandSPX.excO C hp.objs.size)) kk hsz (exo_ok hget)
  have r2 : Vals [V.ref (hp.objs.size + 1), v] [Value.ref (hp.objs.size + 1), u] := .cons rfl (.cons ru .nil)
  refine wpAny_call (PySem.NX.call_kw F.excBase_ValueError (fun Y => PySem.HandSPX.refsVE_contains Y bm hbm) (I.kIn _ _ hC) (PySem.W.looks_findIn I.kIn E.iC) (fun self => PySem.W.bind_fn I.kIn self E.tI)
    (codeAny_mono (E.F.run _ X.stack _ _ ⟨[Value.ref (hp.objs.size + 1)], [("value", u)]⟩ [Value.ref (hp.objs.size + 1), u] _ _ (fun _ _ _ => False) ((hr.mono hj).make C [] [("value", u)]) (I2.env0.make C [] [("value", u)]) (E.bk _ _ _ I2.kIn) r2 hq) fun r s' hq' => ?_))
  cases r with
  | error er => exact False.elim hq'
  | ok fl =>
    cases fl with
    | ret u =>
      obtain ⟨v', H', I3, rv, ev, q3⟩ := I2.after hq'
      subst ev
      exact ⟨rv, ⟨V.ref (hp.objs.size + 1), H', I3, rfl, q3⟩⟩
    | next => exact False.elim hq'
    | brk => exact False.elim hq'
    | cont => exact False.elim hq'
/-- C(value = e) -/
theorem pe_newK {kws : List Keyword} {tk : TA} (E : ErrN X.prog X.w X.K X.mg X.base x C fI fd) (hr : Room j X.A) (hkw : PK X kws tk) (hj : 2 ≤ j := by decide) (hg : Gl X x := by rfl)
    (hall : (backToKw pos (keywordEach kws X.env)).all (·.1.isSome) = true := by rfl) (hks : (backToKw pos (keywordEach kws X.env)).filterMap (·.1) = (["value"] : List Str) := by rfl) (hdb : (x == ("__debug__" : Str)) = false := by decide)
    (hpl : ((backTo pos (starEach [] X.env)).any (·.1) || (backToKw pos (keywordEach kws X.env)).any (·.1.isNone)) = false := by rfl) : PE X (.Call (.Name x p) [] kws pos) (tNewK C tk) := by
  refine ⟨fun pins s σ H Q I h => ?_⟩
  refine wpAny_Call_Name_kw (ld_glob I hg E.m ?_ hdb)
  refine PySem.W.callWith_KW0 (h₀ := X.base) I.ok.mod.kin E.T.kC hall ?_ hpl
  refine thn (hkw.run pos pins s σ H _ I h) fun ws s2 ⟨zs, H2, I2, rz, v, ev, k⟩ => ⟨I2.kIn, ?_⟩
  rw [hks]
  subst ev
  cases rz with
  | cons ru rn =>
    cases rn
    exact run_newK E hr hj I2 ru k
/-- isinstance(e, c), e made -/
def rIsN (K : PySem.W.Frag) : List V → Hp → VK → Prop := fun xs H Q => ∃ (a D : Addr) (dd : Addr) (fs : List (Str × V)) (c : V) (cv : Value) (b : Bool), xs = [.ref a, c] ∧ H a = some (exo a D (some dd)) ∧ H dd = some (exd dd fs) ∧ L2.ExcC K D ∧ (∀ u, RelV c u → u = cv) ∧ PySem.W.kitOne K (.ref D) cv = some b ∧ Q (.bl b) H
theorem exo_inst {K : PySem.W.Frag} {P : Program} {w : World} {h : Heap} {a C dd : Addr} {fs : List (Str × V)} (hok : HOk P w H h) (ea : H a = some (exo a C (some dd))) (ed : H dd = some (exd dd fs)) :
    ∃ (oe od : Obj) (mA : Str → Option Value), PySem.W.InstAt h a oe C (some od) ∧ (∀ name, PySem.W.lookIn name od = some (mA name)) ∧ ∀ f, RelO (fs.lookup f) (mA f) := by
  obtain ⟨t1, hget⟩ := exo_at hok ea
  obtain ⟨mA, hns, hr⟩ := exd_at hok ed
  obtain ⟨od, ho, hl⟩ := lookIn_ns hns
  exact ⟨_, od, mA, ⟨hget, rfl, rfl, ho⟩, hl, hr⟩
theorem call_isN : CallR X (.builtin "isinstance") (rIsN X.K) := by
  intro pins s σ H xs us Q I r h
  obtain ⟨a, D, dd, fs, c, cv, b, rfl, ha, hdd, C, hcv, e, q⟩ := h
  cases r with
  | cons rx rr =>
    cases rr with
    | cons rt rr =>
      cases rr
      cases rx
      have ec := hcv _ rt
      subst ec
      obtain ⟨oe, od, mA, J, _, _⟩ := exo_inst (K := X.K) I.hok ha hdd
      obtain ⟨cd, hcd, _⟩ := PySem.W.any_some C.hd
      exact PySem.W.kia_one (PySem.W.kitx_exc (by rw [hcd]; rfl) C.hg C.hk C.hs C.ha C.hn C.ht C.hm) I.kIn J e (fun z => nomatch z) fun tk => ⟨.bl b, H, I.kept (t' := tk) fun _ _ z => z, rfl, q⟩
/-- e.f, e made -/
def tXn (K : PySem.W.Frag) (f : Str) (te : TE) : TE := fun σ H Q => te σ H fun x H1 => ∃ (a C dd : Addr) (fs : List (Str × V)) (v : V), x = .ref a ∧ H1 a = some (exo a C (some dd)) ∧ XfC K C ∧ PySem.W.findIn K (.ref C) f = some none ∧ H1 dd = some (exd dd fs) ∧ fs.lookup f = some v ∧ Q v H1
theorem pe_xn {n : Str} (he : PE X e te) (hb : attributeBase e n X.env (eval e X.env) = eval e X.env := by rfl) : PE X (.Attribute e n pos) (tXn X.K n te) := by
  refine ⟨fun pins s σ H Q I h => ?_⟩
  refine attr_of hb (thn (he.run pins s σ H _ I h) fun u s1 hh => ?_)
  obtain ⟨x, H1, I1, rx, a, C, dd, fs, v, ex, ha, T, hno, ea, l, q⟩ := hh
  subst ex
  obtain rfl : u = Value.ref a := rx
  obtain ⟨oe, od, mA, J, hl, hr⟩ := exo_inst (K := X.K) I1.hok ha ea
  obtain ⟨u, hu, ru⟩ := RelO.some_of (v := v) (o := mA n) (by rw [← l]; exact hr n)
  exact HandSPX.exc_get I1.kIn J T.ga T.gg T.exC (PySem.W.findObj_own T.hdC hno rfl (by rw [hl, hu])) (handed_of ru) ⟨v, H1, I1.tok _, ru, q⟩
end
end Kx
namespace Kx
open PySem PySem.Spec PyProof.Rows L2
/-- a class of errors without an __init__ of its own -/
structure ErrP (K : PySem.W.Frag) (mg : Str → Option Value) (x : Str) (C : Addr) (bmB : List Value) (B newId initId : String) : Prop where
  F : ExcBaseFacts B newId initId bmB
  q : PySem.W.excIn K C bmB newId = true
  m : mg x = some (.ref C)
  k : PySem.W.keepIn K (.ref C) = true
  ec : L2.ExcC K C
section
variable {X : Cx} {x : Str} {C : Addr} {p pos : Pos} {bmB : List Value} {B newId initId : String}
/-- C() -/
def tNewP (C : Addr) : TE := fun _ H Q => ∀ a, H a = none → Q (.ref a) (upd H a (ExO (.ref C) a))
theorem pe_exc0 (E : ErrP X.K X.mg x C bmB B newId initId) (hg : Gl X x := by rfl) (hdb : (x == ("__debug__" : Str)) = false := by decide) : PE X (.Call (.Name x p) [] [] pos) (tNewP C) := by
  refine ⟨fun pins s σ H Q I h => ?_⟩
  refine wpAny_Call_Name_kw (ld_glob I hg E.m ?_ hdb)
  refine PySem.W.callWith_K0 I.kIn E.k ?_
  show wpAny _ _ (call (.ref C) []) _ _ _
  obtain ⟨bm, N, nm, qn, bs, hdct, sn, sub, ab, col, dd, k0, k1, k2, k3, k5, mN, hC, hN, hni, T⟩ := exc_obj I.kIn E.q
  refine wpAny_call_exc_subT E.F T hC hN hni (fun h' a hm => ?_) (by show 0 ≤ sizeLine; exact Nat.zero_le _)
  have hn : H a = none := I.hok.gone hm.new
  obtain ⟨t, ht, _, _⟩ := hm.there
  exact ⟨.ref a, upd H a (ExO (.ref C) a), I.laidN hm.keeps hm.new hn (exO_ok ht ⟨rfl, rfl⟩ rfl rfl rfl (show 4 < 6 by decide)), rfl, h a hn⟩
/-- an error object of the class D at a -/
def ErrV (H : Hp) (a D : Addr) : Prop := (∃ dd fs, H a = some (exo a D (some dd)) ∧ H dd = some (exd dd fs)) ∨ H a = some (ExO (.ref D) a)
theorem ErrV.same {H H' : Hp} {a D : Addr} (h : ErrV H a D) (s : Same H H') : ErrV H' a D := by
  rcases h with ⟨dd, fs, e1, e2⟩ | e
  · exact .inl ⟨dd, fs, s _ _ e1, s _ _ e2⟩
  · exact .inr (s _ _ e)
def rIsA (K : PySem.W.Frag) : List V → Hp → VK → Prop := fun xs H Q => ∃ (a D : Addr) (c : V) (cv : Value) (b : Bool), xs = [.ref a, c] ∧ ErrV H a D ∧ L2.ExcC K D ∧ (∀ u, RelV c u → u = cv) ∧ PySem.W.kitOne K (.ref D) cv = some b ∧ Q (.bl b) H
theorem call_isA : CallR X (.builtin "isinstance") (rIsA X.K) := by
  intro pins s σ H xs us Q I r h
  obtain ⟨a, D, c, cv, b, rfl, hE, C, hcv, e, q⟩ := h
  cases r with
  | cons rx rr =>
    cases rr with
    | cons rt rr =>
      cases rr
      cases rx
      have ec := hcv _ rt
      subst ec
      have J : ∃ oe od, PySem.W.InstAt s.heap a oe D od := by
        rcases hE with ⟨dd, fs, e1, e2⟩ | e1
        · obtain ⟨oe, od, mA, J, _, _⟩ := exo_inst (K := X.K) I.hok e1 e2
          exact ⟨oe, some od, J⟩
        · obtain ⟨⟨oe, vs, ho, hz, hd, _⟩, _, _⟩ := I.hok a _ e1
          obtain ⟨oc, od, oda, osl⟩ := oe
          obtain ⟨h1, h2⟩ := hz
          dsimp only at h1 h2 hd
          subst h1 h2 hd
          exact ⟨_, none, ho, rfl, rfl, trivial⟩
      obtain ⟨oe, od, J⟩ := J
      obtain ⟨cd, hcd, _⟩ := PySem.W.any_some C.hd
      exact PySem.W.kia_one (PySem.W.kitx_exc (by rw [hcd]; rfl) C.hg C.hk C.hs C.ha C.hn C.ht C.hm) I.kIn J e (fun z => nomatch z) fun tk => ⟨.bl b, H, I.kept (t' := tk) fun _ _ z => z, rfl, q⟩
theorem kit_ref {K : PySem.W.Frag} {D C : Addr} {b : Bool} (h2 : PySem.W.isClsIn K C = true) (h3 : PySem.W.typeIn K (.ref C) = some (.type "type")) (hs : PySem.W.subIn K (.ref C) (.ref C) = some true) (h : PySem.W.subIn K (.ref D) (.ref C) = some b) : PySem.W.kitOne K (.ref D) (.ref C) = some b := by
  unfold PySem.W.kitOne
  by_cases e : D = C
  · subst e
    rw [h] at hs
    rw [if_pos (beq_self_eq_true _), hs]
  · rw [if_neg (by intro z; exact e (Value.ref.inj (beq_iff_eq.mp z)))]
    unfold PySem.W.kitCls
    have h2' : (PySem.W.clsIn K C).isSome = true := h2
    have e2 : ((PySem.W.clsIn K C).isSome && PySem.W.typeIn K (.ref C) == some (.type "type")) = true := by rw [h2', h3]; rfl
    show (if ((PySem.W.clsIn K C).isSome && PySem.W.typeIn K (.ref C) == some (.type "type")) = true then PySem.W.subIn K (.ref D) (.ref C) else none) = some b
    rw [if_pos e2, h]
theorem kit_ve {K : PySem.W.Frag} {D : Addr} (h : PySem.W.subIn K (.ref D) (.type "ValueError") = some true) : PySem.W.kitOne K (.ref D) (.type "ValueError") = some true := by
  unfold PySem.W.kitOne
  rw [if_neg (by intro z; cases (beq_iff_eq.mp z))]
  show (if PySem.W.kitMeta "ValueError" = true then PySem.W.subIn K (.ref D) (.type "ValueError") else none) = some true
  rw [if_pos (by decide +kernel), h]
end
end Kx

set_option Elab.async false
set_option linter.all false
set_option maxRecDepth 100000
set_option maxHeartbeats 4000000
set_option exponentiation.threshold 4000
namespace Kx
open PySem PySem.Spec PyProof.Rows L2
def strTimes (z : Str) (k : Int) : Str := if k < 1 then Str.empty else if (k == 1 || z.length == 0) = true then z else ⟨(List.replicate k.toNat z.cps).foldl (· ++ ·) #[]⟩
/-- a written text times a small count -/
def rMulS : R2 := fun x y H Q => ∃ (z : Str) (k : Int), x = .str z ∧ y = .int k ∧ 0 ≤ k ∧ k ≤ 100 ∧ z.length ≤ 100 ∧ (strTimes z k).length ≤ sizeLine ∧ Q (.str (strTimes z k)) H
theorem op_mulS {X : Cx} : OpR X (binaryOp .Mult) rMulS := by
  intro pins s σ H x y v u Q I rx ry h
  obtain ⟨z, k, rfl, rfl, h0, h1, h2, hl, q⟩ := h
  obtain ⟨t, rfl⟩ := rx
  obtain ⟨t2, rfl⟩ := ry
  have hmul : z.length * k.toNat ≤ 100 * 100 := Nat.mul_le_mul h2 (by omega)
  refine PySem.P.mul_str (by rw [decide_eq_false (by omega), decide_eq_false (by omega)]; rfl) (fun h3 _ => ?_) (fun _ _ => ?_) ?_
  · have : (2 ^ 63 - 1 : Int) / k ≥ (2 ^ 63 - 1) / 100 := by
      have e1 : (100 : Int) * ((2 ^ 63 - 1) / 100) ≤ 2 ^ 63 - 1 := by decide
      exact (Int.le_ediv_iff_mul_le (by omega)).mpr (Int.le_trans (Int.mul_le_mul_of_nonneg_left h1 (by decide)) (by decide))
    have e2 : ((2 ^ 63 - 1 : Int) / 100) = 92233720368547758 := by decide
    omega
  · show decide (_ > sizeLine) = false
    exact decide_eq_false (by rw [sizeLine_eq]; omega)
  · unfold strTimes at hl q
    split
    · rename_i hk
      rw [if_pos hk] at hl q
      exact ⟨hl, .str _, H, I.tok _, ⟨_, rfl⟩, q⟩
    · rename_i hk
      rw [if_neg hk] at hl q
      split
      · rename_i hk2
        rw [if_pos hk2] at hl q
        exact ⟨.str _, H, I, ⟨_, rfl⟩, q⟩
      · rename_i hk2
        rw [if_neg hk2] at hl q
        exact ⟨hl, .str _, H, I.tok _, ⟨_, rfl⟩, q⟩
end Kx
namespace Kx
open PySem PySem.Spec PyProof.Rows L2
/-- what the written part says of the classes, together -/
structure KitT (K : PySem.W.Frag) (Cs : List Addr) (S : Addr) : Prop where
  cc : ∀ (i j : Nat) (C D : Addr), Cs[i]? = some C → Cs[j]? = some D → PySem.W.kitOne K (.ref C) (.ref D) = some (decide (j = i))
  cs : ∀ C ∈ Cs, PySem.W.kitOne K (.ref C) (.ref S) = some true
  cv : ∀ C ∈ Cs, PySem.W.kitOne K (.ref C) (.type "ValueError") = some true
  sc : ∀ C ∈ Cs, PySem.W.kitOne K (.ref S) (.ref C) = some false
  sv : PySem.W.kitOne K (.ref S) (.type "ValueError") = some true
  ec : ∀ C ∈ Cs, L2.ExcC K C
  xf : ∀ C ∈ Cs, XfC K C
  nv : ∀ C ∈ Cs, PySem.W.findIn K (.ref C) "value" = some none
section
variable {K : PySem.W.Frag} {H : Hp}
theorem It.same {H' : Hp} {v : V} {d : PyData} (h : It K H v d) (s : Same H H') : It K H' v d := ⟨dp_same s _ _ h.dp, h.sh, h.nd, h.de, h.co, h.la, h.ok.same s⟩
theorem it_tup {p : Addr} {xs : List V} {ds : List PyData} (h : H p = some (.tup xs)) (hi : ItAll K H xs ds) (h1 : PyData.depthAll ds ≤ 9) (h2 : costAll ds ≤ 90000) : It K H (.ref p) (.tuple ds) := by
  obtain ⟨a1, a2, a3, a4, a5, a6, a7, a8⟩ := itAll_facts hi
  refine ⟨.tup (SqT.of h) a1, ?_, ?_, ?_, ?_, ?_, ⟨"tuple", tyS_tup h⟩⟩
  · simp only [PyData.showable]; exact a2
  · simp only [PyData.hasDict]; exact a3
  · simp only [PyData.depth]; omega
  · simp only [cost]; omega
  · simp only [PyData.canLay0]; exact a6
theorem it_lst {p : Addr} {xs : List V} {ds : List PyData} (h : H p = some (.lst xs)) (hi : ItAll K H xs ds) (h1 : PyData.depthAll ds ≤ 9) (h2 : costAll ds ≤ 90000) : It K H (.ref p) (.list ds) := by
  obtain ⟨a1, a2, a3, a4, a5, a6, a7, a8⟩ := itAll_facts hi
  refine ⟨.lst (SqL.of h) a1, ?_, ?_, ?_, ?_, ?_, ⟨"list", tyS_lst h⟩⟩
  · simp only [PyData.showable]; exact a2
  · simp only [PyData.hasDict]; exact a3
  · simp only [PyData.depth]; omega
  · simp only [cost]; omega
  · simp only [PyData.canLay0]; exact a6
theorem itAll_nats : ∀ ns : List Nat, (∀ n ∈ ns, n < 100) → ItAll K H (ns.map fun n : Nat => V.int (n : Int)) (ns.map fun n : Nat => PyData.int (n : Int)) ∧ PyData.depthAll (ns.map fun n : Nat => PyData.int (n : Int)) ≤ 1 ∧ costAll (ns.map fun n : Nat => PyData.int (n : Int)) ≤ 2000 * ns.length
  | [], _ => ⟨.nil, by simp only [List.map_nil, PyData.depthAll]; omega, by simp only [List.map_nil, costAll]; omega⟩
  | n :: ns, h => by
    obtain ⟨h1, h2, h3⟩ := itAll_nats ns fun m hm => h m (List.mem_cons_of_mem _ hm)
    have hn := h n (List.mem_cons_self ..)
    refine ⟨.cons (.int (n := 10) (by have : ((n : Int)).natAbs = n := Int.natAbs_natCast n
                                      omega) (by decide)) h1, ?_, ?_⟩
    · simp only [List.map_cons, PyData.depthAll, PyData.depth]; omega
    · simp only [List.map_cons, costAll, cost, List.length_cons]; omega
/-- two of one kind in a list, shown -/
theorem rp_two {L : Addr} {x y : V} {d e : PyData} (h : H L = some (.lst [x, y])) (hx : It K H x d) (hy : It K H y e) : Rp K H (.ref L) (.list [d, e]) := (val_lst h (.cons hx (.cons hy .nil)) (Nat.le_of_ble_eq_true rfl)).rp
theorem isAe {a D : Addr} {c : V} {cv : Value} {b : Bool} {Q : VK} (hE : ErrV H a D) (hX : L2.ExcC K D) (hc : ∀ u, RelV c u → u = cv) (hk : PySem.W.kitOne K (.ref D) cv = some b) (q : Q (.bl b) H) : rIsA K [.ref a, c] H Q := ⟨a, D, c, cv, b, rfl, hE, hX, hc, hk, q⟩
theorem xn_mk {a C dd : Addr} {v : V} (hx : XfC K C) (hn : PySem.W.findIn K (.ref C) "value" = some none) (ea : H a = some (exo a C (some dd))) (ed : H dd = some (exd dd [("value", v)])) {te : TE} {σ : SV} {Q : VK} (ht : te σ H (fun x H1 => x = .ref a ∧ H1 = H)) : True := trivial
end
theorem Made.err {H1 H2 : Hp} {C a dx : Addr} {v : V} (m : Made H1 H2 C a dx v) : ErrV H2 a C := .inl ⟨dx, _, m.ea, m.ed⟩
end Kx
namespace Kx
open PySem PySem.Spec PyProof.Rows L2
def LstAt (H : Hp) (p : Addr) (ns : List Nat) : Prop := H p = some (.lst (.int 1 :: .non :: ns.map fun n : Nat => V.int (n : Int))) ∧ ns.length ≤ 12 ∧ ∀ n ∈ ns, n < 100
/-- the value: what is no list stays, the list grows -/
def ValW (K : PySem.W.Frag) (H : Hp) (v : V) (i : Nat) : Prop := (∃ d t, It K H v d ∧ tyS H v = some t ∧ t ≠ "list" ∧ ∀ p, v = .ref p → ∃ xs, H p = some (.tup xs)) ∨ ∃ p ns, v = .ref p ∧ LstAt H p ns ∧ ns.length ≤ i
theorem valW_it {K : PySem.W.Frag} {H : Hp} {v : V} {i : Nat} (h : ValW K H v i) : ∃ d, It K H v d := by
  rcases h with ⟨d, t, hI, _⟩ | ⟨p, ns, rfl, ⟨e, hl, hb⟩, _⟩
  · exact ⟨d, hI⟩
  · obtain ⟨h1, h2, h3⟩ := itAll_nats (K := K) (H := H) ns hb
    refine ⟨_, it_lst e (.cons (.int (n := 10) (by decide) (by decide)) (.cons .non h1)) ?_ ?_⟩
    · simp only [PyData.depthAll, PyData.depth]; omega
    · simp only [costAll, cost]; omega
theorem kitB_list {K : PySem.W.Frag} {H : Hp} {v : V} {t : String} (h : tyS H v = some t) (hn : t ≠ "list") : kitB t "list" = some false := by
  have hm := (tyS_of (K := K) h).2.1
  simp only [List.mem_cons, List.not_mem_nil, or_false] at hm
  rcases hm with rfl | rfl | rfl | rfl | rfl | rfl | rfl
  · decide +kernel
  · decide +kernel
  · decide +kernel
  · decide +kernel
  · exact absurd rfl hn
  · decide +kernel
  · decide +kernel
end Kx
namespace Kx
open PySem PySem.Spec PyProof.Rows L2
theorem exo_lst {e C : Addr} {d : Option Addr} {xs : List V} : exo e C d ≠ .lst xs := fun z => by
  have z' : HO.ext _ = HO.lst xs := z
  cases z'
theorem exd_lst {e : Addr} {fs : List (Str × V)} {xs : List V} : exd e fs ≠ .lst xs := fun z => by
  have z' : HO.ext _ = HO.lst xs := z
  cases z'
theorem upd_lst {H : Hp} {p b : Addr} {xs : List V} {o o2 : HO} (h : H p = some (.lst xs)) (e : H b = some o2) (hne : o2 ≠ .lst xs) : L2.upd H p o b = some o2 := by
  rw [upd_ne (fun z => ?_)]
  · exact e
  · rw [z, h] at e
    exact hne (Option.some.inj e).symm
theorem ValW.same {K : PySem.W.Frag} {H H' : Hp} {v : V} {i : Nat} (h : ValW K H v i) (s : Same H H') : ValW K H' v i := by
  rcases h with ⟨d, t, hI, ht, hn, hx⟩ | ⟨p, ns, rfl, ⟨e, hl, hb⟩, hle⟩
  · exact .inl ⟨d, t, hI.same s, tyS_same s ht, hn, fun p e => by
      obtain ⟨xs, h⟩ := hx p e
      exact ⟨xs, s _ _ h⟩⟩
  · exact .inr ⟨p, ns, rfl, ⟨s _ _ e, hl, hb⟩, hle⟩
theorem look1 {v : V} : List.lookup ("value" : Str) [(("value" : Str), v)] = some v := by simp [List.lookup]
end Kx
namespace Kx
open PySem PySem.Spec PyProof.Rows L2
theorem bare_mk {K : PySem.W.Frag} {C : Addr} {σ : SV} {H : Hp} {Q : VK} (xf : XfC K C) (nv : PySem.W.findIn K (.ref C) "value" = some none) (k : ∀ H2, Same H H2 → Q .non H2) : tXn K "value" (tNew C [V.non] tNil) σ H Q :=
  ⟨.non, rfl, fun a dx H2 m => ⟨a, C, dx, _, .non, rfl, m.ea, xf, nv, m.ed, look1, k H2 m.sm⟩⟩
end Kx
namespace Kx
open PySem PySem.Spec PyProof.Rows L2
theorem eq_bools {K : PySem.W.Frag} {H : Hp} {a b : Addr} {Q : VK} (bs : List Bool) (h1 : H a = some (.lst (bs.map V.bl))) (h2 : H b = some (.lst (bs.map V.bl))) (q : Q (.bl true) H) : rEqD K (.ref a) (.ref b) H Q :=
  ⟨_, _, .lst (SqL.of h1) (dpAll_bools bs), .lst (SqL.of h2) (dpAll_bools bs), shaped_bools bs, shaped_bools bs, by rw [eqv_same (shaped_bools bs)]; exact q⟩
end Kx
namespace Kx
open PySem PySem.Spec PyProof.Rows L2
/-- the __init__ in a class's text -/
def initOf : Stmt → Stmt
  | .ClassDef (body := b) .. => b.getD 0 (.Pass ⟨0, 0, 0, 0⟩)
  | _ => .Pass ⟨0, 0, 0, 0⟩
/-- how the __init__ of an error binds -/
theorem init_binds {K : PySem.W.Frag} {qual : Str} {params : Arguments} {body : List Stmt} {scope : Scope} {f : Addr} {fd : FuncData} (F : FunD K "__init__" qual params body scope [V.non] [] f fd)
    (h1 : ∀ (T : Addr) (kV doc pm : Value) (an : Option Addr) (cdv ct u v d : Value), ∃ k, bindArgs (PySem.W.fnOf "__init__" qual params body scope (.ref T) kV doc pm an cdv ct) ⟨[u, v], []⟩ = seqItems? (.ref T) >>= k ∧ k (some [d].toArray) = pure ((["self", "value"] : List Str).zip [u, v]))
    (h0 : ∀ (T : Addr) (kV doc pm : Value) (an : Option Addr) (cdv ct u d : Value), ∃ k, bindArgs (PySem.W.fnOf "__init__" qual params body scope (.ref T) kV doc pm an cdv ct) ⟨[u], []⟩ = seqItems? (.ref T) >>= k ∧ k (some [d].toArray) = pure ((["self", "value"] : List Str).zip [u, d]))
    (hk : ∀ (T : Addr) (kV doc pm : Value) (an : Option Addr) (cdv ct u v d : Value), ∃ k, bindArgs (PySem.W.fnOf "__init__" qual params body scope (.ref T) kV doc pm an cdv ct) ⟨[u], [("value", v)]⟩ = seqItems? (.ref T) >>= k ∧ k (some [d].toArray) = pure ((["self", "value"] : List Str).zip [u, v])) :
    Binds K fd ["self", "value"] [] ∧ (∃ ds, Vals [V.non] ds ∧ Binds K fd ["self", "value"] ds) ∧ ∀ (s : Shared) (u v : Value), K.In s.heap → BindsTo s fd ⟨[u], [("value", v)]⟩ [("self", u), ("value", v)] := by
  refine ⟨?_, ?_, ?_⟩
  · obtain ⟨ds, hv, hb⟩ := F.binds1 (ps := ["self", "value"]) 2 1 (by simp) (by decide) (fun T kV doc pm an cdv ct us its l1 l2 => by
      match us, its, l1, l2 with
      | [u, v], [d], _, _ => exact h1 T kV doc pm an cdv ct u v d)
    cases hv
    exact hb
  · obtain ⟨ds, hv, hb⟩ := F.binds1 (ps := ["self", "value"]) 1 0 (by simp) (by decide) (fun T kV doc pm an cdv ct us its l1 l2 => by
      match us, its, l1, l2 with
      | [u], [d], _, _ => exact h0 T kV doc pm an cdv ct u d)
    exact ⟨ds, hv, hb⟩
  · obtain ⟨oc, od, dV, kV, doc, pm, an, cdv, ct, osl, rfl, lk, hcd, hD, hK⟩ := F.ex
    rcases hD with ⟨e, _⟩ | ⟨_, T, o, its, m, rfl, lT, oT, rT⟩
    · exact absurd e (by simp)
    · intro s u v X
      cases rT with
      | @cons _ d _ dr r1 r2 =>
        cases r2
        obtain ⟨k, e1, e2⟩ := hk T kV doc pm an cdv ct u v d
        refine BindsTo.of_looks fun M => ?_
        rw [e1]
        exact looks_items X lT oT (.of_pure e2)
/-- an error class's facts, by the written part's words -/
theorem errN_mk {P : Program} {w : World} {K : PySem.W.Frag} {mg : Str → Option Value} {base : Heap} {x : Str} {C fI : Addr} {fd : FuncData} (iC : PySem.W.findIn K (.ref C) "__init__" = some (some (.ref fI))) (tI : PySem.W.typeIn K (.ref fI) = some (.type "function"))
    (F : FnOk P w K mg base CX0 1 fI fd ["self", "value"] (spInit C)) (B : Binds K fd ["self", "value"] [] ∧ (∃ ds, Vals [V.non] ds ∧ Binds K fd ["self", "value"] ds) ∧ ∀ (s : Shared) (u v : Value), K.In s.heap → BindsTo s fd ⟨[u], [("value", v)]⟩ [("self", u), ("value", v)])
    (T : OexC K C) (m : mg x = some (.ref C)) (ga : PySem.W.findIn K (.ref C) "__getattribute__" = some (some (.builtin "BaseException.__getattribute__"))) (gg : PySem.W.findIn K (.ref C) "__getattr__" = some none)
    (hd : PySem.W.hasDictIn K C = true) (ec : L2.ExcC K C) (nv : PySem.W.findIn K (.ref C) "value" = some none) : ErrN P w K mg base x C fI fd :=
  ⟨iC, tI, F, B.1, B.2.1, B.2.2, T, m, ⟨ga, gg, T.exC, hd⟩, ec, nv⟩
end Kx

set_option Elab.async false
set_option linter.all false
set_option maxRecDepth 100000
set_option maxHeartbeats 4000000
set_option exponentiation.threshold 4000
/-! Defs that refuse. -/
namespace Kx
open PySem PySem.Spec PyProof.Rows L2
/-- an error of the class C with the value v may come -/
def Err (H : Hp) (E : XK) (C : Addr) (v : V) : Prop := ∀ d H', Same H H' → H' d = some (.xd [("value", v)]) → E (.ref C) (some d) H'
theorem Err.same {H H' : Hp} {E : XK} {C : Addr} {v : V} (h : Err H E C v) (s : Same H H') : Err H' E C v := fun d H2 s2 e => h d H2 (s.trans s2) e
theorem Err.now {H H1 : Hp} {E : XK} {C : Addr} {v : V} (h : Err H E C v) (s : Same H H1) : ∀ d, H1 d = none → E (.ref C) (some d) (L2.upd H1 d (.xd [("value", v)])) := fun d nd => h d _ (s.trans (Same.upd nd)) upd_same
/-- what comes of a call: it is let, or refused -/
inductive Oc where
  | ok
  | err (C : Addr) (v : V)
def Meets (H : Hp) (Q : VK) (E : XK) : Oc → Prop
  | .ok => ∀ r H', Same H H' → Q r H'
  | .err C v => Err H E C v
theorem Meets.same {H H' : Hp} {Q : VK} {E : XK} {o : Oc} (h : Meets H Q E o) (s : Same H H') : Meets H' Q E o := by
  cases o with
  | ok => exact fun r H2 s2 => h r H2 (s.trans s2)
  | err C v => exact Err.same h s
def ocM (CM : Addr) (x : V) (k : Int → Oc) : Oc := if measB x then (match x with | .int D => k D | _ => .ok) else .err CM x
def ocRoots (CR : Addr) (D : Int) (H : Hp) : List V → Oc → Oc
  | [], o => o
  | r :: rs, o => if rootB D H r then ocRoots CR D H rs o else .err CR r
/-- check_measure -/
def spCheckMeasureX (CM : Addr) : Sp := fun vs H Q E => ∃ x, vs = [x] ∧ OkItem H x ∧ (measB x = true → Q .non H) ∧ (measB x = false → Err H E CM x)
/-- _check: the measure, then the root numbers in their order -/
def spCheckX (CM CR : Addr) : Sp := fun vs H Q E => ∃ (x : V) (a : Addr) (rs : List V), vs = [x, .ref a] ∧ OkItem H x ∧ (∀ D, x = .int D → D < 2 ^ 1000) ∧ H a = some (.tup rs) ∧ (∀ r ∈ rs, OkV H r) ∧ Meets H Q E (ocM CM x fun D => ocRoots CR D H rs .ok)
theorem measB_get {x : V} (h : measB x = true) : ∃ D, x = .int D ∧ Meas D := by
  cases x with
  | int D =>
    rw [measB_int, Bool.and_eq_true, decide_eq_true_eq, decide_eq_true_eq] at h
    exact ⟨D, rfl, h⟩
  | _ => cases h
theorem rootB_get {D : Int} {H : Hp} {x : V} (h : rootB D H x = true) : ∃ a t, x = .ref a ∧ RootAt D H a t := by
  have hw : wholesB H 3 x = true := by
    unfold rootB at h
    exact (Bool.and_eq_true_iff.mp h).1
  obtain ⟨a, i, j, l, rfl, ha⟩ := wholes3 hw
  rw [rootB3 ha] at h
  simp only [Bool.and_eq_true, decide_eq_true_eq, Bool.or_eq_true, Bool.not_eq_true', decide_eq_false_iff_not] at h
  obtain ⟨h1, h2, h3⟩ := h
  have hp := gcdI_pos (a := gcdI i j) (show l ≠ 0 by omega)
  exact ⟨a, (i, j, l), rfl, ha, h1, show gcdI (gcdI i j) l = 1 by omega, h3⟩
theorem ocRoots_same {CR : Addr} {D : Int} {H H' : Hp} (s : Same H H') {o : Oc} : ∀ {rs : List V}, (∀ r ∈ rs, OkV H r) → ocRoots CR D H' rs o = ocRoots CR D H rs o
  | [], _ => rfl
  | r :: rs, h => by
    unfold ocRoots
    rw [rootB_same s (h r (List.mem_cons_self ..)).1, ocRoots_same s fun q hq => h q (List.mem_cons_of_mem _ hq)]
theorem ErrN.c {P : Program} {w : World} {K : PySem.W.Frag} {mg : Str → Option Value} {base : Heap} {x : Str} {C fI : Addr} {fd : FuncData} (E : ErrN P w K mg base x C fI fd) : ErrC P w K mg base x C := ⟨⟨fI, fd, E.iC, E.tI, E.F, E.b1⟩, E.T, E.m, E.xf, E.ec, E.nv⟩
end Kx
namespace Kx
open PySem PySem.Spec PyProof.Rows L2
theorem meets_roots0 {CR : Addr} {D : Int} {H H1 : Hp} {Q Q1 : VK} {E : XK} {o : Oc} (s : Same H H1) : ∀ {rs : List V}, (∀ r ∈ rs, OkV H r) → Meets H Q E (ocRoots CR D H rs o) → ((∀ r ∈ rs, rootB D H r = true) → Meets H Q E o → ∀ r H2, Same H1 H2 → Q1 r H2) → Meets H1 Q1 E (ocRoots CR D H1 rs .ok)
  | [], _, kk, k => fun r H2 s2 => k (fun r hr => absurd hr List.not_mem_nil) kk r H2 s2
  | r :: rs, hok, kk, k => by
    unfold ocRoots at kk ⊢
    rw [rootB_same s (hok r (List.mem_cons_self ..)).1]
    cases hb : rootB D H r with
    | true =>
      rw [if_pos hb] at kk
      rw [if_pos rfl]
      exact meets_roots0 s (fun q hq => hok q (List.mem_cons_of_mem _ hq)) kk fun h => k fun q hq => by
        rcases List.mem_cons.mp hq with rfl | hq
        · exact hb
        · exact h q hq
    | false =>
      rw [if_neg (by rw [hb]; decide)] at kk
      rw [if_neg (by decide)]
      exact Err.same kk s
theorem meets_roots {CM CR : Addr} {x : V} {H H1 : Hp} {Q Q1 : VK} {E : XK} {o : Int → Oc} {rs : List V} (s : Same H H1) (hok : ∀ r ∈ rs, OkV H r) (kk : Meets H Q E (ocM CM x fun D => ocRoots CR D H rs (o D)))
    (k : ∀ D, x = .int D → Meas D → (∀ r ∈ rs, rootB D H r = true) → Meets H Q E (o D) → ∀ r H2, Same H1 H2 → Q1 r H2) : Meets H1 Q1 E (ocM CM x fun D => ocRoots CR D H1 rs .ok) := by
  unfold ocM at kk ⊢
  cases hm : measB x with
  | true =>
    obtain ⟨D, rfl, hM⟩ := measB_get hm
    rw [if_pos hm] at kk
    rw [if_pos rfl]
    exact meets_roots0 s hok kk fun h => k D rfl hM h
  | false =>
    rw [if_neg (by rw [hm]; decide)] at kk
    rw [if_neg (by decide)]
    exact Err.same kk s
def zeroB (H : Hp) : V → Bool
  | .ref a => match H a with
    | some (.tup [.int x, .int y, .int _]) => decide (x = 0) && decide (y = 0)
    | _ => false
  | _ => false
theorem zeroB_at {H : Hp} {a : Addr} {D : Int} {t : Int × Int × Int} (h : RootAt D H a t) : zeroB H (.ref a) = (decide (t.1 = 0) && decide (t.2.1 = 0)) := by
  unfold zeroB
  simp only [h.1, rootV]
/-- what stands there is small -/
def SzV (H : Hp) (n : Nat) (o : V) : Prop := ∀ (a : Addr) (D : Int) (t : Int × Int × Int), o = .ref a → RootAt D H a t → Sz n t
structure Ask2 (H : Hp) (x o1 o2 : V) : Prop where
  ox : OkItem H x
  d : ∀ D : Int, x = .int D → D < 2 ^ 200
  v1 : OkV H o1
  v2 : OkV H o2
  z1 : SzV H 300 o1
  z2 : SzV H 300 o2
theorem Ask2.two {H : Hp} {x o1 o2 : V} (A : Ask2 H x o1 o2) {D : Int} (e : x = .int D) (hM : Meas D) (h : ∀ r ∈ [o1, o2], rootB D H r = true) : ∃ a b t u, o1 = .ref a ∧ o2 = .ref b ∧ Two D H a b t u 300 300 := by
  obtain ⟨a, t, rfl, ra⟩ := rootB_get (h o1 (by simp))
  obtain ⟨b, u, rfl, rb⟩ := rootB_get (h o2 (by simp))
  exact ⟨a, b, t, u, rfl, rfl, hM, A.d D e, ra, rb, A.z1 a D t rfl ra, A.z2 b D u rfl rb⟩
theorem Ask2.all {H : Hp} {x o1 o2 : V} (A : Ask2 H x o1 o2) : ∀ r ∈ [o1, o2], OkV H r := fun r hr => by
  simp only [List.mem_cons, List.not_mem_nil, or_false] at hr
  rcases hr with rfl | rfl
  · exact A.v1
  · exact A.v2
/-- root_plus, root_less, root_times -/
def spRoot2X (CM CR : Addr) : Sp := fun vs H Q E => ∃ x o1 o2 : V, vs = [x, o1, o2] ∧ Ask2 H x o1 o2 ∧ Meets H Q E (ocM CM x fun D => ocRoots CR D H [o1, o2] .ok)
def spRootOverX (CM CR : Addr) : Sp := fun vs H Q E => ∃ x o1 o2 : V, vs = [x, o1, o2] ∧ Ask2 H x o1 o2 ∧ Meets H Q E (ocM CM x fun D => ocRoots CR D H [o1, o2] (if zeroB H o2 then .err CR o2 else .ok))
/-- root_side, root_floor -/
def spRoot1X (CM CR : Addr) : Sp := fun vs H Q E => ∃ x o : V, vs = [x, o] ∧ OkItem H x ∧ (∀ D, x = .int D → D < 2 ^ 200) ∧ OkV H o ∧ SzV H 300 o ∧ Meets H Q E (ocM CM x fun D => ocRoots CR D H [o] .ok)
/-- is_root: the value may be anything -/
def spIsRootX (CM : Addr) : Sp := fun vs H Q E => ∃ x o : V, vs = [x, o] ∧ OkItem H x ∧ (∀ D, x = .int D → D < 2 ^ 200) ∧ OkV H o ∧ Meets H Q E (ocM CM x fun _ => .ok)
def ocNums (CN : Addr) : List V → Oc → Oc
  | [], o => o
  | r :: rs, o => if isIntV r then ocNums CN rs o else .err CN r
def isZero : V → Bool
  | .int i => decide (i = 0)
  | _ => false
def spRootNumberX (CM CN : Addr) : Sp := fun vs H Q E => ∃ x a b c : V, vs = [x, a, b, c] ∧ OkItem H x ∧ (∀ D, x = .int D → D < 2 ^ 200) ∧ (∀ r ∈ [a, b, c], OkItem H r ∧ ∀ i, r = .int i → i.natAbs < 2 ^ 300) ∧ Meets H Q E (ocM CM x fun _ => ocNums CN [a, b, c] (if isZero c then .err CN c else .ok))
end Kx
namespace Kx
open PySem PySem.Spec PyProof.Rows L2
/-- the doors of k05: the four sums, side, floor, is_root, root_number -/
def ocAsked (CM CR CN : Addr) (H : Hp) (k : Nat) (g : List V) : Oc :=
  let g0 := g.getD 0 .non; let g1 := g.getD 1 .non; let g2 := g.getD 2 .non; let g3 := g.getD 3 .non
  if k < 3 then ocM CM g0 fun D => ocRoots CR D H [g1, g2] .ok
  else if k = 3 then ocM CM g0 fun D => ocRoots CR D H [g1, g2] (if zeroB H g2 then .err CR g2 else .ok)
  else if k < 6 then ocM CM g0 fun D => ocRoots CR D H [g1] .ok
  else if k = 6 then ocM CM g0 fun _ => .ok
  else ocM CM g0 fun _ => ocNums CN [g1, g2, g3] (if isZero g3 then .err CN g3 else .ok)
/-- what may be handed in there -/
structure Hand (H : Hp) (k : Nat) (g : List V) : Prop where
  ln : (if k < 4 then 3 else if k < 7 then 2 else 4) ≤ g.length
  d : ∀ D : Int, g.getD 0 .non = .int D → D < 2 ^ 200
  v : ∀ x ∈ g, OkV H x ∧ SzV H 300 x ∧ ∀ i : Int, x = .int i → i.natAbs < 2 ^ 300
def spAskedX (CM CR CN : Addr) : Sp := fun vs H Q E => ∃ (k : Nat) (q : Addr) (g : List V), vs = [.int k, .ref q] ∧ k < 8 ∧ H q = some (.lst g) ∧ Hand H k g ∧ Meets H Q E (ocAsked CM CR CN H k g)
theorem zeroB_same {H H' : Hp} {x : V} (s : Same H H') (h : OkItem H x) : zeroB H' x = zeroB H x := by
  cases x with
  | ref a =>
    obtain ⟨o, ho⟩ := h.at
    unfold zeroB
    simp only [ho, s _ _ ho]
  | _ => rfl
theorem SzV.same {H H' : Hp} {n : Nat} {x : V} (h : SzV H n x) (hO : OkItem H x) (s : Same H H') : SzV H' n x := fun a D t e r => by
  subst e
  obtain ⟨o, ho⟩ := hO.at
  have := s _ _ ho
  rw [r.1] at this
  cases this
  exact h a D t rfl ⟨ho, r.2⟩
theorem Ask2.same {H H' : Hp} {x o1 o2 : V} (A : Ask2 H x o1 o2) (s : Same H H') : Ask2 H' x o1 o2 := ⟨A.ox.same s, A.d, A.v1.same s, A.v2.same s, A.z1.same A.v1.1 s, A.z2.same A.v2.1 s⟩
theorem meets_move {CM CR : Addr} {x : V} {H H1 : Hp} {Q : VK} {E : XK} {o o1 : Oc} {rs : List V} (s : Same H H1) (hok : ∀ r ∈ rs, OkV H r) (e : o1 = o) (kk : Meets H Q E (ocM CM x fun D => ocRoots CR D H rs o)) : Meets H1 Q E (ocM CM x fun D => ocRoots CR D H1 rs o1) := by
  subst e
  have ef : (fun D => ocRoots CR D H1 rs o1) = fun D => ocRoots CR D H rs o1 := funext fun D => ocRoots_same s hok
  rw [ef]
  exact kk.same s
end Kx
namespace Kx
open PySem PySem.Spec PyProof.Rows L2
theorem countU {y : V} {uy : Value} (ry : RelV y uy) : ∀ {ys : List V} {us : List Value}, Vals ys us → ys.all flatV = true → us.countP (eqU y) = ys.countP (fun z => eqV z y)
  | [], _, h, _ => by
    cases h
    rfl
  | z :: ys, _, h, f => by
    cases h with
    | cons r rs =>
      rw [List.all_cons, Bool.and_eq_true] at f
      rw [List.countP_cons, List.countP_cons, countU ry rs f.2, eqU_of r f.1]
/-- l.count(x), flat items -/
def rCountF (K : PySem.W.Frag) : V → List V → Hp → VK → Prop := fun x xs H Q => ∃ (a : Addr) (ys : List V) (y : V), x = .ref a ∧ xs = [y] ∧ SqL K H a ys ∧ flatV y = true ∧ ys.all flatV = true ∧ Q (.int (ys.countP (fun z => eqV z y) : Nat)) H
theorem mt_countF {X : Cx} : MtR X "list.count" (rCountF X.K) := by
  intro pins s σ H x xs v us Q I rx rxs h
  obtain ⟨a, ys, y, rfl, rfl, hs, fy, fys, q⟩ := h
  cases rx
  cases rxs with
  | cons ry rt =>
    rename_i uy ut
    cases rt
    obtain ⟨its, rv, ⟨⟨cls, dd, data, sl⟩, n, ho, hc, hdn, hd⟩, hlen⟩ := I.list hs
    simp only at hc hd
    subst hc hd
    refine call_meets PySem.F.slot_list_count ⟨_, ho, rfl⟩ PySem.F.entry_list_count (PySem.F.args_list_count_2 _ _)
      (SeqAt.list_countAt a its.toArray n dd sl uy (eqU y)) ⟨ho, fun u' hu' => mem_eqAt ry fy rv fys u' (by simpa using hu'), ?_⟩
    refine ⟨.int (ys.countP (fun z => eqV z y) : Nat), H, I.tok _, ⟨s.toks, ?_⟩, q⟩
    show Value.int ((its.toArray.toList.countP (eqU y) : Nat) : Int) s.toks = _
    rw [show its.toArray.toList = its from rfl, countU ry rv fys]
end Kx
namespace Kx
open PySem PySem.Spec PyProof.Rows L2
/-- what the law tells of a call: let, or the error's kind and value -/
def toldL (CM CR : Addr) : Oc → List V
  | .ok => [.str "let"]
  | .err C v => [.str (if C = CM then "measure" else if C = CR then "root" else "number"), v]
def spTold5 (CM CR CN : Addr) : Sp := fun vs H Q _ => ∃ (k : Nat) (q : Addr) (g : List V), vs = [.int k, .ref q] ∧ k < 8 ∧ H q = some (.lst g) ∧ Hand H k g ∧ ∀ L H', L ≠ sysModules → Same H H' → H' L = some (.lst (toldL CM CR (ocAsked CM CR CN H k g))) → Q (.ref L) H'
end Kx
namespace Kx
open PySem PySem.Spec PyProof.Rows L2
/-- what the written part says of three classes of errors under one -/
structure Kit3 (K : PySem.W.Frag) (C0 C1 C2 S : Addr) : Prop where
  ex : ∀ C ∈ [C0, C1, C2], PySem.W.exmOne K (.ref C) (.ref S) = some true
  kit : ∀ (i j : Nat) (C D : Addr), [C0, C1, C2][i]? = some C → [C0, C1, C2][j]? = some D → PySem.W.kitOne K (.ref C) (.ref D) = some (decide (j = i))
  kv : ∀ C ∈ [C0, C1, C2], PySem.W.kitOne K (.ref C) (.type "ValueError") = some true
  ec : ∀ C ∈ [C0, C1, C2], L2.ExcC K C
  xf : ∀ C ∈ [C0, C1, C2], XfC K C
  nv : ∀ C ∈ [C0, C1, C2], PySem.W.findIn K (.ref C) "value" = some none
def Oc.in3 (CM CR CN : Addr) : Oc → Prop
  | .ok => True
  | .err C _ => C ∈ [CM, CR, CN]
theorem ocM_in {CM CR CN : Addr} {x : V} {k : Int → Oc} (h : ∀ D, (k D).in3 CM CR CN) : (ocM CM x k).in3 CM CR CN := by
  unfold ocM
  split
  · split
    · exact h _
    · trivial
  · show CM ∈ [CM, CR, CN]
    simp
theorem ocRoots_in {CM CR CN : Addr} {D : Int} {H : Hp} {o : Oc} (ho : o.in3 CM CR CN) : ∀ rs : List V, (ocRoots CR D H rs o).in3 CM CR CN
  | [] => ho
  | r :: rs => by
    unfold ocRoots
    split
    · exact ocRoots_in ho rs
    · show CR ∈ [CM, CR, CN]
      simp
theorem ocNums_in {CM CR CN : Addr} {o : Oc} (ho : o.in3 CM CR CN) : ∀ rs : List V, (ocNums CN rs o).in3 CM CR CN
  | [] => ho
  | r :: rs => by
    unfold ocNums
    split
    · exact ocNums_in ho rs
    · show CN ∈ [CM, CR, CN]
      simp
theorem ocAsked_in {CM CR CN : Addr} {H : Hp} {k : Nat} {g : List V} : (ocAsked CM CR CN H k g).in3 CM CR CN := by
  unfold ocAsked
  dsimp only
  split
  · exact ocM_in fun D => ocRoots_in (o := .ok) True.intro _
  · split
    · refine ocM_in fun D => ocRoots_in ?_ _
      split
      · show CR ∈ [CM, CR, CN]
        simp
      · trivial
    · split
      · exact ocM_in fun D => ocRoots_in (o := .ok) True.intro _
      · split
        · exact ocM_in fun D => trivial
        · refine ocM_in fun D => ocNums_in ?_ _
          split
          · show CN ∈ [CM, CR, CN]
            simp
          · trivial
theorem isKe {K : PySem.W.Frag} {H : Hp} {a D dd : Addr} {fs : List (Str × V)} {c : V} {cv : Value} {b : Bool} {Q : VK} (e1 : H a = some (ExK (.ref D) (some dd) a)) (e2 : H dd = some (.xd fs)) (hX : L2.ExcC K D) (hc : ∀ u, RelV c u → u = cv) (hk : PySem.W.kitOne K (.ref D) cv = some b) (q : Q (.bl b) H) : rIsK K [.ref a, c] H Q := ⟨a, D, dd, fs, c, cv, b, rfl, e1, e2, hX, hc, hk, q⟩
end Kx

set_option Elab.async false
set_option linter.all false
set_option maxRecDepth 100000
set_option maxHeartbeats 4000000
set_option exponentiation.threshold 4000
/-! Odd values that are shown, a dict among them. -/
namespace Kx
open PySem PySem.Spec PyProof.Rows L2
/-- a new list stands behind all that the start brings -/
def tLstB (t : TA) : TE := fun σ H Q => t σ H fun xs H1 => xs.length ≤ sizeLine ∧ ∀ p, H1 p = none → p ≠ sysModules → Q (.ref p) (upd H1 p (.lst xs))
theorem pe_lstB {X : Cx} {es : List Expr} {t : TA} {pos : Pos} (h : PA X es t) : PE X (.List es pos) (tLstB t) := by
  refine ⟨fun pins s σ H Q I hq => ?_⟩
  refine wpAny_List_spliced (thn (h.run pos pins s σ H _ I hq) fun us s1 ⟨xs, H1, I1, r, z, q⟩ => ⟨by rw [← r.length]; exact z, ?_⟩)
  have hf : H1 s1.heap.objs.size = none := I1.hok.fresh (Nat.le_refl _)
  refine ⟨.ref s1.heap.objs.size, upd H1 s1.heap.objs.size (.lst xs), I1.laid (t' := s1.toks) (fun b u e => Heap.get?_push_of_some _ e) (Nat.le_refl _) ?_, rfl, q _ hf (Nat.ne_of_gt I1.big)⟩
  exact ⟨z, us, 0, r, Heap.get?_push_size _ rfl⟩
theorem dict0_reads {X : Cx} {pins : List (Addr × Obj)} {σ : SV} {H : Hp} {s : Shared} {a : Addr} (I : Inv X pins σ H s) (e : H a = some (.dK [])) : a ≠ sysModules ∧ Reads s.heap (.ref a) (.dict []) [a] := by
  obtain ⟨z, hd, vs, rel, o, es, ep, ho, hx, hdat, hk, hp, hn⟩ := dk_of I.hok e
  have hvs : vs = [] := by cases rel; rfl
  subst hvs
  have hes : es.toList = [] := by
    generalize es.toList = l at hp
    cases hp
    rfl
  refine ⟨by simpa using hd, ?_⟩
  exact Reads.dict (kvs := []) (as := []) (bs := []) ho hx.1 hdat (by rw [hes]; exact .nil) (by rw [hes]; exact .nil)
/-- what may be shown: plain data, the empty dict, a list of a text and it -/
inductive Dq (K : PySem.W.Frag) (H : Hp) : V → PyData → Prop
  | rp {x : V} {d : PyData} : Rp K H x d → Dq K H x d
  | dc {a : Addr} : H a = some (.dK []) → Dq K H (.ref a) (.dict [])
  | lc {L a : Addr} {z : Str} : L ≠ sysModules → H L = some (.lst [.str z, .ref a]) → H a = some (.dK []) → (reprText z).length ≤ 1000 → Dq K H (.ref L) (.list [.str z, .dict []])
theorem shown_lc {z : Str} (h : (reprText z).length ≤ 1000) : (PyData.list [.str z, .dict []]).shown.length ≤ sizeLine := by
  have e : (PyData.list [.str z, .dict []]).shown = listText [reprText z, (PyData.dict []).shown] := by simp only [PyData.shown, PyData.shownAll]
  rw [e]
  have h1 := listText_le [reprText z, (PyData.dict []).shown]
  rw [piled_cons, piled_cons] at h1
  have h2 : (PyData.dict []).shown.length = 2 := by decide +kernel
  have h3 : piled [] = 0 := rfl
  rw [sizeLine_eq]
  omega
theorem cr_reprQ {X : Cx} (gd : X.A.guards = some []) (hu : X.A.units + 64 < cLine) : CallR X (.builtin "repr") (fun vs H Q => ∃ (x : V) (d : PyData), vs = [x] ∧ Dq X.K H x d ∧ Q (.str d.shown) H) := by
  intro pins s σ H vs us Q I r h
  obtain ⟨x, d, rfl, hd, q⟩ := h
  cases hd with
  | rp R => exact cr_reprR gd hu pins s σ H _ us Q I r ⟨x, d, rfl, R, q⟩
  | @dc a e =>
    obtain ⟨u, rfl, rx⟩ := vals1 r
    cases rx
    obtain ⟨ne, rd⟩ := dict0_reads I e
    exact repr_of_reads' rd rfl (fun _ => by simpa using Ne.symm ne) gd (by simp only [PyData.depth, PyData.depthKv]; omega) (fun _ _ z => z) (fun h' t tk hk => ⟨.str _, H, I.kept hk, ⟨_, rfl⟩, q⟩) (by decide +kernel)
  | @lc L a z nL eL e hz =>
    obtain ⟨u, rfl, rx⟩ := vals1 r
    cases rx
    obtain ⟨ne, rd⟩ := dict0_reads I e
    obtain ⟨its, rv, ⟨o, n, ho, hc, _, hdt⟩, _⟩ := I.list (SqL.of eL)
    cases rv with
    | cons r1 r2 =>
      cases r2 with
      | cons r2 r3 =>
        cases r3
        obtain ⟨t, rfl⟩ := r1
        cases r2
        have rl : Reads s.heap (.ref L) (.list [.str z, .dict []]) (L :: ([] ++ ([a] ++ []))) := Reads.list ho hc hdt (.cons (.str z t) (.cons rd .nil))
        exact repr_of_reads' rl rfl (fun _ => by simp [Ne.symm ne, Ne.symm nL]) gd (by simp only [PyData.depth, PyData.depthKv, PyData.depthAll]; omega) (fun _ _ z => z) (fun h' t tk hk => ⟨.str _, H, I.kept hk, ⟨_, rfl⟩, q⟩) (shown_lc hz)
/-- an odd value's data -/
inductive Oq (K : PySem.W.Frag) (H : Hp) : V → PyData → Prop
  | it {x : V} {d : PyData} : It K H x d → Oq K H x d
  | dc {a : Addr} : H a = some (.dK []) → Oq K H (.ref a) (.dict [])
def DueT (z : Str) : Prop := (PyData.str z).showable = true ∧ (reprText z).length ≤ 1000 ∧ (PyData.str z).canLay0 = true
section
variable {K : PySem.W.Frag} {H H' : Hp} {x : V} {d : PyData}
theorem Oq.same (h : Oq K H x d) (s : Same H H') : Oq K H' x d := by
  cases h with
  | it i => exact .it (i.same s)
  | dc e => exact .dc (s _ _ e)
theorem Oq.dq (h : Oq K H x d) : Dq K H x d := by
  cases h with
  | it i => exact .rp ⟨i.dp, i.sh, i.nd, Nat.le_trans i.de (by decide), Nat.le_trans i.co (by decide)⟩
  | dc e => exact .dc e
theorem Oq.two {L : Addr} {z : Str} (h : Oq K H x d) (hz : DueT z) (nL : L ≠ sysModules) (e : H L = some (.lst [.str z, x])) : Dq K H (.ref L) (.list [.str z, d]) := by
  cases h with
  | it i => exact .rp (rp_two e (.str hz.1 (by simp only [cost]; exact Nat.le_trans hz.2.1 (by decide)) hz.2.2) i)
  | dc e2 => exact .lc nL e e2 hz.2.1
end
/-- a value that is handed in where it may be refused -/
structure OddV (K : PySem.W.Frag) (H : Hp) (x : V) (d : PyData) : Prop where
  q : Oq K H x d
  ok : OkV H x
  z : SzV H 300 x
  i : ∀ i : Int, x = .int i → i.natAbs < 2 ^ 150
theorem OddV.same {K : PySem.W.Frag} {H H' : Hp} {x : V} {d : PyData} (h : OddV K H x d) (s : Same H H') : OddV K H' x d := ⟨h.q.same s, h.ok.same s, h.z.same h.ok.1 s, h.i⟩
end Kx
namespace Kx
open PySem PySem.Spec PyProof.Rows L2
theorem sml {n : Nat} (h : n ≤ 1000) : n ≤ sizeLine := Nat.le_of_lt (small1000 h)
/-- what stands behind the odd value -/
def BehOk (H : Hp) (b : V) : Prop := OkV H b ∧ SzV H 300 b ∧ ∀ i : Int, b = .int i → i.natAbs < 2 ^ 150
theorem BehOk.same {H H' : Hp} {b : V} (h : BehOk H b) (s : Same H H') : BehOk H' b := ⟨h.1.same s, h.2.1.same h.1.1 s, h.2.2⟩
/-- all doors refuse the odd value, whatever stands behind it -/
def spAllRefused (K : PySem.W.Frag) (CM CR CN : Addr) : Sp := fun vs H Q _ => ∃ (dr gv : Addr) (due : Str) (odd : V) (ks : List Nat) (g : List V) (d : PyData), vs = [.ref dr, .ref gv, .str due, odd] ∧ H dr = some (.lst (ks.map fun k : Nat => V.int (k : Int))) ∧ H gv = some (.lst g) ∧ g.length ≤ 4 ∧ (∀ k ∈ ks, k < 8) ∧ ks.length ≤ 8 ∧ DueT due ∧ OddV K H odd d ∧
  (∀ H' b, Same H H' → BehOk H' b → ∀ k ∈ ks, Hand H' k (g ++ [odd] ++ [b, b, b]) ∧ toldL CM CR (ocAsked CM CR CN H' k (g ++ [odd] ++ [b, b, b])) = [.str due, odd]) ∧ ∀ H', Same H H' → Q (.bl true) H'
theorem behOk_int {H : Hp} {i : Int} (h : i.natAbs < 2 ^ 150) : BehOk H (.int i) := ⟨okV_of (t := "int") rfl (by decide), fun a D t e => (by cases e), fun j e => (by cases e; exact h)⟩
theorem behOk_non {H : Hp} : BehOk H .non := ⟨okV_of (t := "NoneType") rfl (by decide), fun a D t e => (by cases e), fun j e => (by cases e)⟩
theorem behOk_tup3 {H : Hp} {p : Addr} {x y z : Int} (h : H p = some (.tup [.int x, .int y, .int z])) (hx : x.natAbs < 2 ^ 300) (hy : y.natAbs < 2 ^ 300) (hz : z.natAbs < 2 ^ 300) : BehOk H (.ref p) := by
  refine ⟨⟨⟨"tuple", tyS_tup h⟩, fun a xs e1 e2 y hy => ?_⟩, fun a D t e r => ?_, fun j e => by cases e⟩
  · cases e1
    rw [h] at e2
    cases e2
    simp only [List.mem_cons, List.not_mem_nil, or_false] at hy
    rcases hy with rfl | rfl | rfl <;> exact ⟨"int", rfl⟩
  · cases e
    have := r.1
    rw [h] at this
    obtain ⟨a1, a2, a3⟩ := t
    simp only [rootV, Option.some.injEq, HO.tup.injEq, List.cons.injEq, V.int.injEq, and_true] at this
    obtain ⟨rfl, rfl, rfl⟩ := this
    exact ⟨hx, hy, hz⟩
theorem OddV.beh {K : PySem.W.Frag} {H : Hp} {x : V} {d : PyData} (h : OddV K H x d) : BehOk H x := ⟨h.ok, h.z, h.i⟩
end Kx
namespace Kx
open PySem PySem.Spec PyProof.Rows L2
/-- an odd value that is no root number -/
def BadRoot (K : PySem.W.Frag) (D : Int) (H : Hp) (x : V) : Prop := ∃ d, OddV K H x d ∧ rootB D H x = false
theorem BadRoot.same {K : PySem.W.Frag} {D : Int} {H H' : Hp} {x : V} (h : BadRoot K D H x) (s : Same H H') : BadRoot K D H' x := by
  obtain ⟨d, h1, h2⟩ := h
  exact ⟨d, h1.same s, by rw [rootB_same s h1.ok.1]; exact h2⟩
section
variable {K : PySem.W.Frag} {D : Int} {H : Hp} {p : Addr} {xs : List V} {ds : List PyData}
theorem bad_non : BadRoot K D H .non := ⟨_, ⟨.it .non, okV_of (t := "NoneType") rfl (by decide), fun a D t e => (by cases e), fun j e => (by cases e)⟩, rootB_of (t := "NoneType") rfl (by decide)⟩
theorem bad_bl {b : Bool} : BadRoot K D H (.bl b) := ⟨_, ⟨.it .bl, okV_of (t := "bool") rfl (by decide), fun a D t e => (by cases e), fun j e => (by cases e)⟩, rootB_of (t := "bool") rfl (by decide)⟩
theorem bad_int {i : Int} (h : i.natAbs < 2 ^ 150) : BadRoot K D H (.int i) := ⟨_, ⟨.it (.int h (by decide)), okV_of (t := "int") rfl (by decide), fun a D t e => (by cases e), fun j e => (by cases e; exact h)⟩, rootB_of (t := "int") rfl (by decide)⟩
theorem bad_str {z : Str} (h : DueT z) : BadRoot K D H (.str z) := ⟨_, ⟨.it (.str h.1 (by simp only [cost]; exact Nat.le_trans h.2.1 (by decide)) h.2.2), okV_of (t := "str") rfl (by decide), fun a D t e => (by cases e), fun j e => (by cases e)⟩, rootB_of (t := "str") rfl (by decide)⟩
theorem bad_dict (h : H p = some (.dK [])) : BadRoot K D H (.ref p) := ⟨_, ⟨.dc h, okV_of (tyS_dK h) (by decide), fun a D t e r => (by cases e; exact absurd (h.symm.trans r.1) (by simp)), fun j e => (by cases e)⟩, rootB_of (tyS_dK h) (by decide)⟩
theorem bad_lst (h : H p = some (.lst xs)) (hi : ItAll K H xs ds) (h1 : PyData.depthAll ds ≤ 9) (h2 : costAll ds ≤ 90000) : BadRoot K D H (.ref p) := ⟨_, ⟨.it (it_lst h hi h1 h2), okV_of (tyS_lst h) (by decide), fun a D t e r => (by cases e; exact absurd (h.symm.trans r.1) (by simp)), fun j e => (by cases e)⟩, rootB_of (tyS_lst h) (by decide)⟩
theorem itAll_ok {vs : List V} (h : ItAll K H vs ds) : ∀ v ∈ vs, OkItem H v := (itAll_facts h).2.2.2.2.2.2.1
theorem szV_tup (h : H p = some (.tup xs)) (hz : ∀ i : Int, V.int i ∈ xs → i.natAbs < 2 ^ 300) : SzV H 300 (.ref p) := fun a D t e r => by
  cases e
  have := r.1
  rw [h] at this
  cases this
  exact ⟨hz _ (by simp [rootV]), hz _ (by simp [rootV]), hz _ (by simp [rootV])⟩
theorem odd_tup (h : H p = some (.tup xs)) (hi : ItAll K H xs ds) (h1 : PyData.depthAll ds ≤ 9) (h2 : costAll ds ≤ 90000) (hz : ∀ i : Int, V.int i ∈ xs → i.natAbs < 2 ^ 300) : OddV K H (.ref p) (.tuple ds) :=
  ⟨.it (it_tup h hi h1 h2), okV_tup h (itAll_ok hi), szV_tup h hz, fun j e => (by cases e)⟩
/-- a tuple of plain items but of another length or with a item that is no number -/
theorem bad_tup (h : H p = some (.tup xs)) (hi : ItAll K H xs ds) (h1 : PyData.depthAll ds ≤ 9) (h2 : costAll ds ≤ 90000) (hz : ∀ i : Int, V.int i ∈ xs → i.natAbs < 2 ^ 300) (hb : (decide ((xs.length : Int) = 3) && xs.all isIntV) = false) : BadRoot K D H (.ref p) :=
  ⟨_, odd_tup h hi h1 h2 hz, rootB_not (by rw [wholes_tup h]; exact hb)⟩
theorem bad_tri {x y z : Int} (h : H p = some (.tup [.int x, .int y, .int z])) (hx : x.natAbs < 2 ^ 300) (hy : y.natAbs < 2 ^ 300) (hz : z.natAbs < 2 ^ 300) (hb : (decide (1 ≤ z) && (decide (gcdI (gcdI x y) z ≤ 1) && (decide (y = 0) || !decide (Sq D)))) = false) : BadRoot K D H (.ref p) :=
  ⟨_, odd_tup h (.cons (.int hx (by decide)) (.cons (.int hy (by decide)) (.cons (.int hz (by decide)) .nil))) (Nat.le_of_ble_eq_true rfl) (Nat.le_of_ble_eq_true rfl) (fun i hi => by
    simp only [List.mem_cons, V.int.injEq, List.not_mem_nil, or_false] at hi
    rcases hi with rfl | rfl | rfl
    · exact hx
    · exact hy
    · exact hz), by rw [rootB3 h]; exact hb⟩
end
def spWrongRoots (K : PySem.W.Frag) : Sp := fun vs H Q _ => ∃ (D : Int) (r : Addr) (t : Int × Int × Int), vs = [.int D, .ref r] ∧ Meas D ∧ D < 2 ^ 200 ∧ RootAt D H r t ∧ Sz 251 t ∧ ∀ (L : Addr) (H' : Hp) (xs : List V), Same H H' → H' L = some (.lst xs) → (∀ x ∈ xs, BadRoot K D H' x) → Q (.ref L) H'
theorem bad_all {K : PySem.W.Frag} {D : Int} {H H' : Hp} {xs : List V} (h : ∀ x ∈ xs, BadRoot K D H x) (s : Same H H') : ∀ x ∈ xs, BadRoot K D H' x := fun x hx => (h x hx).same s
end Kx
namespace Kx
open PySem PySem.Spec PyProof.Rows L2
/-- what may stand among the arguments -/
def GOk (H : Hp) (x : V) : Prop := OkV H x ∧ SzV H 300 x ∧ ∀ i : Int, x = .int i → i.natAbs < 2 ^ 200
theorem GOk.same {H H' : Hp} {x : V} (h : GOk H x) (s : Same H H') : GOk H' x := ⟨h.1.same s, h.2.1.same h.1.1 s, h.2.2⟩
theorem BehOk.g {H : Hp} {x : V} (h : BehOk H x) : GOk H x := ⟨h.1, h.2.1, fun i e => up (h.2.2 i e) (by decide)⟩
theorem gOk_int {H : Hp} {i : Int} (h : i.natAbs < 2 ^ 200) : GOk H (.int i) := ⟨okV_of (t := "int") rfl (by decide), fun a D t e => (by cases e), fun j e => (by cases e; exact h)⟩
theorem gOk_root {H : Hp} {D : Int} {a : Addr} {t : Int × Int × Int} (h : RootAt D H a t) (z : Sz 300 t) : GOk H (.ref a) := ⟨h.okV, szV_tup h.1 (fun i hi => by
    simp only [rootV, List.mem_cons, V.int.injEq, List.not_mem_nil, or_false] at hi
    rcases hi with rfl | rfl | rfl
    · exact z.1
    · exact z.2.1
    · exact z.2.2), fun j e => (by cases e)⟩
theorem hand_of {H : Hp} {k : Nat} {l : List V} (hl : (if k < 4 then 3 else if k < 7 then 2 else 4) ≤ l.length) (h : ∀ x ∈ l, GOk H x) : Hand H k l := by
  refine ⟨hl, fun D e => ?_, fun x hx => ⟨(h x hx).1, (h x hx).2.1, fun i e => up ((h x hx).2.2 i e) (by decide)⟩⟩
  cases l with
  | nil => cases e
  | cons y r =>
    have := (h y (List.mem_cons_self ..)).2.2 D e
    omega
theorem hand4 {H : Hp} {k : Nat} {l : List V} (hl : 4 ≤ l.length) (h : ∀ x ∈ l, GOk H x) : Hand H k l := hand_of (by split <;> (try split) <;> omega) h
section
variable {K : PySem.W.Frag} {CM CR CN : Addr} {H : Hp}
theorem asked_m {x : V} {r : List V} (hx : measB x = false) (k : Nat) : ocAsked CM CR CN H k (x :: r) = .err CM x := by
  have h : ∀ f, ocM CM x f = .err CM x := fun f => by unfold ocM; rw [hx]; rfl
  unfold ocAsked
  simp only [List.getD_cons_zero, h]
  repeat' split
  all_goals rfl
theorem ocM_ok {D : Int} {f : Int → Oc} (hD : Meas D) : ocM CM (.int D) f = f D := by
  unfold ocM
  rw [measB_int, decide_eq_true hD.1, decide_eq_true hD.2]
  rfl
theorem ocRoots_bad {D : Int} {x : V} {r : List V} {o : Oc} (hx : rootB D H x = false) : ocRoots CR D H (x :: r) o = .err CR x := by
  unfold ocRoots
  rw [hx]
  rfl
theorem ocRoots_good {D : Int} {x : V} {r : List V} {o : Oc} (hx : rootB D H x = true) : ocRoots CR D H (x :: r) o = ocRoots CR D H r o := by
  rw [ocRoots, if_pos hx]
theorem ocNums_bad {x : V} {r : List V} {o : Oc} (hx : isIntV x = false) : ocNums CN (x :: r) o = .err CN x := by
  unfold ocNums
  rw [hx]
  rfl
theorem ocNums_good {i : Int} {r : List V} {o : Oc} : ocNums CN (.int i :: r) o = ocNums CN r o := by
  rw [ocNums, if_pos (show isIntV (.int i) = true from rfl)]
theorem asked_r1 {D : Int} {x : V} {r : List V} (hD : Meas D) (hx : rootB D H x = false) {k : Nat} (hk : k < 6) : ocAsked CM CR CN H k (.int D :: x :: r) = .err CR x := by
  unfold ocAsked
  simp only [List.getD_cons_zero, List.getD_cons_succ, ocM_ok hD, ocRoots_bad hx]
  repeat' split
  all_goals first | rfl | (exfalso; omega)
theorem asked_r2 {D : Int} {y x : V} {r : List V} (hD : Meas D) (hy : rootB D H y = true) (hx : rootB D H x = false) {k : Nat} (hk : k < 4) : ocAsked CM CR CN H k (.int D :: y :: x :: r) = .err CR x := by
  unfold ocAsked
  simp only [List.getD_cons_zero, List.getD_cons_succ, ocM_ok hD, ocRoots_good hy, ocRoots_bad hx]
  repeat' split
  all_goals first | rfl | (exfalso; omega)
theorem asked_n1 {D : Int} {x b c : V} {r : List V} (hD : Meas D) (hx : isIntV x = false) : ocAsked CM CR CN H 7 (.int D :: x :: b :: c :: r) = .err CN x := by
  unfold ocAsked
  simp only [List.getD_cons_zero, List.getD_cons_succ, ocM_ok hD, ocNums_bad hx]
  rfl
theorem asked_n2 {D i : Int} {x c : V} {r : List V} (hD : Meas D) (hx : isIntV x = false) : ocAsked CM CR CN H 7 (.int D :: .int i :: x :: c :: r) = .err CN x := by
  unfold ocAsked
  simp only [List.getD_cons_zero, List.getD_cons_succ, ocM_ok hD, ocNums_good, ocNums_bad hx]
  rfl
theorem asked_n3 {D i j : Int} {x : V} {r : List V} (hD : Meas D) (hx : isIntV x = false) : ocAsked CM CR CN H 7 (.int D :: .int i :: .int j :: x :: r) = .err CN x := by
  unfold ocAsked
  simp only [List.getD_cons_zero, List.getD_cons_succ, ocM_ok hD, ocNums_good, ocNums_bad hx]
  rfl
theorem Kit3.ne {S : Addr} (KT : Kit3 K CM CR CN S) : CR ≠ CM ∧ CN ≠ CM ∧ CN ≠ CR := by
  refine ⟨fun h => ?_, fun h => ?_, fun h => ?_⟩
  · have h1 := KT.kit 1 0 _ _ rfl rfl
    have h2 := KT.kit 0 0 _ _ rfl rfl
    rw [h, h2] at h1
    exact absurd h1 (by decide)
  · have h1 := KT.kit 2 0 _ _ rfl rfl
    have h2 := KT.kit 0 0 _ _ rfl rfl
    rw [h, h2] at h1
    exact absurd h1 (by decide)
  · have h1 := KT.kit 2 1 _ _ rfl rfl
    have h2 := KT.kit 1 1 _ _ rfl rfl
    rw [h, h2] at h1
    exact absurd h1 (by decide)
theorem told_m {x : V} : toldL CM CR (.err CM x) = [.str "measure", x] := by simp [toldL]
theorem told_r {x : V} (h : CR ≠ CM) : toldL CM CR (.err CR x) = [.str "root", x] := by simp [toldL, h]
theorem told_n {x : V} (h : CN ≠ CM) (h2 : CN ≠ CR) : toldL CM CR (.err CN x) = [.str "number", x] := by simp [toldL, h, h2]
/-- what _law_all_refused wants, from the outcome -/
theorem refused_mk {g : List V} {odd : V} {d : PyData} {ks : List Nat} {C : Addr} {due : Str} (hg : ∀ x ∈ g, GOk H x) (hO : OddV K H odd d) (oc : ∀ H' b, Same H H' → ∀ k ∈ ks, ocAsked CM CR CN H' k (g ++ [odd] ++ [b, b, b]) = .err C odd) (ht : toldL CM CR (.err C odd) = [.str due, odd]) :
    ∀ H' b, Same H H' → BehOk H' b → ∀ k ∈ ks, Hand H' k (g ++ [odd] ++ [b, b, b]) ∧ toldL CM CR (ocAsked CM CR CN H' k (g ++ [odd] ++ [b, b, b])) = [.str due, odd] := fun H' b s hb k hk => by
  refine ⟨hand4 (by simp only [List.length_append, List.length_cons, List.length_nil]; omega) (fun x hx => ?_), by rw [oc H' b s k hk, ht]⟩
  simp only [List.mem_append, List.mem_cons, List.not_mem_nil, or_false, or_self] at hx
  rcases hx with (hx | rfl) | rfl
  · exact (hg x hx).same s
  · exact (hO.same s).beh.g
  · exact hb.g
end
theorem due_m : DueT "measure" := ⟨by decide +kernel, by decide +kernel, by decide +kernel⟩
theorem due_r : DueT "root" := ⟨by decide +kernel, by decide +kernel, by decide +kernel⟩
theorem due_n : DueT "number" := ⟨by decide +kernel, by decide +kernel, by decide +kernel⟩
/-- an odd value that is no measure -/
def BadMeas (K : PySem.W.Frag) (H : Hp) (x : V) : Prop := ∃ d, OddV K H x d ∧ measB x = false
theorem BadMeas.same {K : PySem.W.Frag} {H H' : Hp} {x : V} (h : BadMeas K H x) (s : Same H H') : BadMeas K H' x := let ⟨d, h1, h2⟩ := h; ⟨d, h1.same s, h2⟩
/-- an odd value that is no number -/
def BadNum (K : PySem.W.Frag) (H : Hp) (x : V) : Prop := ∃ d, OddV K H x d ∧ isIntV x = false
theorem BadNum.same {K : PySem.W.Frag} {H H' : Hp} {x : V} (h : BadNum K H x) (s : Same H H') : BadNum K H' x := let ⟨d, h1, h2⟩ := h; ⟨d, h1.same s, h2⟩
theorem BadRoot.odd {K : PySem.W.Frag} {D : Int} {H : Hp} {x : V} (h : BadRoot K D H x) (hn : isIntV x = false) : BadNum K H x := let ⟨d, h1, _⟩ := h; ⟨d, h1, hn⟩
theorem BadRoot.meas {K : PySem.W.Frag} {D : Int} {H : Hp} {x : V} (h : BadRoot K D H x) (hn : measB x = false) : BadMeas K H x := let ⟨d, h1, _⟩ := h; ⟨d, h1, hn⟩
/-- two pairs beside each other -/
theorem ne_pair {K : PySem.W.Frag} {H : Hp} {a b : Addr} {x y u v : Int} {Q : VK} (h1 : H a = some (.tup [.int x, .int y])) (h2 : H b = some (.tup [.int u, .int v])) (q : Q (.bl (!(decide (x = u) && decide (y = v)))) H) : rNeD K (.ref a) (.ref b) H Q := by
  refine ⟨.tuple [.int x, .int y], .tuple [.int u, .int v], .tup (SqT.of h1) (.cons (.int _) (.cons (.int _) .nil)), .tup (SqT.of h2) (.cons (.int _) (.cons (.int _) .nil)), rfl, rfl, ?_⟩
  have e : PyData.eqv (.tuple [.int x, .int y]) (.tuple [.int u, .int v]) = (decide (x = u) && decide (y = v)) := by
    have hb : ∀ i j : Int, (i == j) = decide (i = j) := fun i j => by
      by_cases h : i = j
      · rw [decide_eq_true h, h]; simp
      · rw [decide_eq_false h]; simpa using h
    simp only [PyData.eqv, PyData.eqvAll, hb, Bool.and_true]
  rw [e]
  exact q
/-- the same data on both sides -/
theorem ne_data {K : PySem.W.Frag} {H : Hp} {a b : Addr} {d : PyData} {Q : VK} (h1 : Dp K H (.ref a) d) (h2 : Dp K H (.ref b) d) (hs : SeqAt.shaped d = true) (q : Q (.bl false) H) : rNeD K (.ref a) (.ref b) H Q := ⟨d, d, h1, h2, hs, hs, by rw [eqv_same hs]; exact q⟩
theorem eq_data {K : PySem.W.Frag} {H : Hp} {a b : Addr} {d : PyData} {Q : VK} (h1 : Dp K H (.ref a) d) (h2 : Dp K H (.ref b) d) (hs : SeqAt.shaped d = true) (q : Q (.bl true) H) : rEqD K (.ref a) (.ref b) H Q := ⟨d, d, h1, h2, hs, hs, by rw [eqv_same hs]; exact q⟩
end Kx
namespace Kx
open PySem PySem.Spec PyProof.Rows L2
theorem rg0 (n : Nat) : rgV 0 (n : Int) = (List.range n).map fun k : Nat => V.int (k : Int) := by
  unfold rgV
  rw [show ((n : Int) - 0).toNat = n by omega]
  refine List.map_congr_left fun k _ => ?_
  rw [Int.zero_add]
def InvL5 (a g : Addr) (D : Int) (po pt : Addr) (h : Hp) : Nat → SV → Hp → Prop := fun _ σ H2 => ∃ t5 t6 : Option V, σ = [some (.ref a), some (.ref g), some (.int D), some (.ref po), some (.ref pt), t5, t6, none, none, none, none, none, none] ∧ Same h H2
def InvL5i (a g : Addr) (D : Int) (po pt : Addr) (odd : V) (h : Hp) : Nat → SV → Hp → Prop := fun _ σ H2 => ∃ t6 : Option V, σ = [some (.ref a), some (.ref g), some (.int D), some (.ref po), some (.ref pt), some odd, t6, none, none, none, none, none, none] ∧ Same h H2
theorem mem_range_lt {n k : Nat} (h : k ∈ List.range n) : k < n := List.mem_range.mp h
theorem gOk_nil {H : Hp} : ∀ x ∈ ([] : List V), GOk H x := fun x hx => absurd hx List.not_mem_nil
theorem gOk_cons {H : Hp} {y : V} {l : List V} (h : GOk H y) (r : ∀ x ∈ l, GOk H x) : ∀ x ∈ y :: l, GOk H x := fun x hx => by
  rcases List.mem_cons.mp hx with rfl | hx
  · exact h
  · exact r x hx
end Kx
namespace Kx
open PySem PySem.Spec PyProof.Rows L2
section
variable {K : PySem.W.Frag} {CM CR CN : Addr} {H : Hp}
theorem asked_z {D : Int} (hD : Meas D) : ocAsked CM CR CN H 7 [.int D, .int 1, .int 1, .int 0] = .err CN (.int 0) := by
  unfold ocAsked
  simp only [List.getD_cons_zero, List.getD_cons_succ, ocM_ok hD, ocNums_good]
  rfl
theorem asked_nz {D : Int} (hD : Meas D) : ocAsked CM CR CN H 7 [.int D, .int 0, .int 0, .int (-1)] = .ok := by
  unfold ocAsked
  simp only [List.getD_cons_zero, List.getD_cons_succ, ocM_ok hD, ocNums_good]
  rfl
theorem asked_6 {D : Int} {x : V} (hD : Meas D) : ocAsked CM CR CN H 6 [.int D, x] = .ok := by
  unfold ocAsked
  simp only [List.getD_cons_zero, List.getD_cons_succ, ocM_ok hD]
  rfl
theorem asked_over0 {D : Int} {y x : V} (hD : Meas D) (hy : rootB D H y = true) (hx : rootB D H x = true) (hz : zeroB H x = true) : ocAsked CM CR CN H 3 [.int D, y, x] = .err CR x := by
  unfold ocAsked
  simp only [List.getD_cons_zero, List.getD_cons_succ, ocM_ok hD, ocRoots_good hy, ocRoots_good hx]
  simp [ocRoots, hz]
theorem asked_ok2 {D : Int} {y x : V} (hD : Meas D) (hy : rootB D H y = true) (hx : rootB D H x = true) (hz : zeroB H x = false) {k : Nat} (hk : k < 4) : ocAsked CM CR CN H k [.int D, y, x] = .ok := by
  unfold ocAsked
  simp only [List.getD_cons_zero, List.getD_cons_succ, ocM_ok hD, ocRoots_good hy, ocRoots_good hx]
  simp only [ocRoots, hz]
  repeat' split
  all_goals first | rfl | (exfalso; omega) | (exfalso; simp at *)
theorem asked_ok1 {D : Int} {y : V} (hD : Meas D) (hy : rootB D H y = true) {k : Nat} (hk : 4 ≤ k) (hk2 : k < 7) : ocAsked CM CR CN H k [.int D, y] = .ok := by
  unfold ocAsked
  simp only [List.getD_cons_zero, List.getD_cons_succ, ocM_ok hD, ocRoots_good hy]
  repeat' split
  all_goals first | rfl | (exfalso; omega)
theorem dpAll_rep {x : V} {d : PyData} (h : Dp K H x d) : ∀ n : Nat, DpAll K H (List.replicate n x) (List.replicate n d)
  | 0 => .nil
  | n + 1 => .cons h (dpAll_rep h n)
theorem dpAll_refs {d : PyData} : ∀ {ls : List Addr}, (∀ l ∈ ls, Dp K H (.ref l) d) → DpAll K H (ls.map V.ref) (List.replicate ls.length d)
  | [], _ => .nil
  | l :: ls, h => .cons (h l (List.mem_cons_self ..)) (dpAll_refs fun m hm => h m (List.mem_cons_of_mem _ hm))
end
theorem good_001 {D : Int} : Good D (0, 0, 1) := ⟨by decide, by decide, .inl rfl⟩
theorem good_101 {D : Int} : Good D (1, 0, 1) := ⟨by decide, by decide, .inl rfl⟩
theorem flat_rep {x : V} (n : Nat) : (List.replicate n [x]).flatten = List.replicate n x := by
  induction n with
  | zero => rfl
  | succ n ih => rw [List.replicate_succ, List.flatten_cons, ih]; rfl
/-- a list that grows, of addresses of equal lists -/
def InvRefs (h : Hp) (Dd : Addr) (ys : List V) : Nat → Hp → Prop := fun i H2 => Same h H2 ∧ ∃ ls : List Addr, H2 Dd = some (.lst (ls.map V.ref)) ∧ ls.length = i ∧ ∀ l ∈ ls, H2 l = some (.lst ys)
theorem refs_ne {ys : List V} {z : Str} {r : List V} (e : ys = .str z :: r) (ls : List Addr) : HO.lst ys ≠ HO.lst (ls.map V.ref) := fun h => by
  subst e
  have h2 := HO.lst.inj h
  cases ls with
  | nil => cases h2
  | cons l ls => cases h2
theorem InvRefs.push {h H2 H3 : Hp} {Dd L : Addr} {ys : List V} {z : Str} {r : List V} {i : Nat} (e : ys = .str z :: r) (hi : InvRefs h Dd ys i H2) (hD : h Dd = none) (s : Same H2 H3) (eL : H3 L = some (.lst ys)) (hle : i ≤ 900) : ∃ acc, H3 Dd = some (.lst acc) ∧ acc.length < sizeLine ∧ InvRefs h Dd ys (i + 1) (L2.upd H3 Dd (.lst (acc ++ [.ref L]))) := by
  obtain ⟨s2, ls, eD, el, hls⟩ := hi
  have eD3 := s _ _ eD
  refine ⟨_, eD3, small1000 (by rw [List.length_map]; omega), Same.upd2 (s2.trans s) hD, ls ++ [L], by rw [upd_same, List.map_append]; rfl, by rw [List.length_append, el]; rfl, fun l hl => ?_⟩
  rcases List.mem_append.mp hl with hl | hl
  · exact upd_lst eD3 (s _ _ (hls l hl)) (refs_ne e ls)
  · rw [List.mem_singleton] at hl
    subst hl
    exact upd_lst eD3 eL (refs_ne e ls)
end Kx
namespace Kx
open PySem PySem.Spec PyProof.Rows L2
/-- a list that grows by one and the same value -/
def InvRep (h : Hp) (Dd : Addr) (x : V) : Nat → Hp → Prop := fun i H2 => Same h H2 ∧ H2 Dd = some (.lst (List.replicate i x))
end Kx

set_option Elab.async false
set_option linter.all false
set_option maxRecDepth 100000
set_option maxHeartbeats 4000000
set_option exponentiation.threshold 4000
namespace L05
open PySem PySem.Spec PyProof.Rows L2 Kx

def top (i : Nat) : Stmt := PySem.Challenge.pw_slitsheets_k05_root_numbers_refused.main.body.getD i (.Pass ⟨0, 0, 0, 0⟩)

abbrev s_IsWhole : Stmt := top 7

abbrev N_IsWhole : List Str := ["value"]

theorem scIsWhole : FnScope ["value"] ["value"] (defScope s_IsWhole) := ⟨rfl, rfl, rfl, by decide +kernel, rfl, by decide +kernel, by decide +kernel⟩

abbrev s_AreWholes : Stmt := top 8

abbrev N_AreWholes : List Str := ["value", "many", "item"]

theorem scAreWholes : FnScope ["value", "many", "item"] ["value", "many"] (defScope s_AreWholes) := ⟨rfl, rfl, rfl, by decide +kernel, rfl, by decide +kernel, by decide +kernel⟩

abbrev s_IsMeasure : Stmt := top 10

abbrev N_IsMeasure : List Str := ["value"]

theorem scIsMeasure : FnScope ["value"] ["value"] (defScope s_IsMeasure) := ⟨rfl, rfl, rfl, by decide +kernel, rfl, by decide +kernel, by decide +kernel⟩

abbrev s_CheckMeasure : Stmt := top 11

abbrev N_CheckMeasure : List Str := ["measure"]

theorem scCheckMeasure : FnScope ["measure"] ["measure"] (defScope s_CheckMeasure) := ⟨rfl, rfl, rfl, by decide +kernel, rfl, by decide +kernel, by decide +kernel⟩

abbrev s_IsRoot : Stmt := top 13

abbrev N_IsRoot : List Str := ["measure", "value"]

theorem scIsRoot : FnScope ["measure", "value"] ["measure", "value"] (defScope s_IsRoot) := ⟨rfl, rfl, rfl, by decide +kernel, rfl, by decide +kernel, by decide +kernel⟩

abbrev s_RootNumber : Stmt := top 14

abbrev N_RootNumber : List Str := ["measure", "x", "y", "below", "number"]

theorem scRootNumber : FnScope ["measure", "x", "y", "below", "number"] ["measure", "x", "y", "below"] (defScope s_RootNumber) := ⟨rfl, rfl, rfl, by decide +kernel, rfl, by decide +kernel, by decide +kernel⟩

abbrev s_RootPlus : Stmt := top 15

abbrev N_RootPlus : List Str := ["measure", "one", "other"]

theorem scRootPlus : FnScope ["measure", "one", "other"] ["measure", "one", "other"] (defScope s_RootPlus) := ⟨rfl, rfl, rfl, by decide +kernel, rfl, by decide +kernel, by decide +kernel⟩

abbrev s_RootLess : Stmt := top 16

abbrev N_RootLess : List Str := ["measure", "one", "other"]

theorem scRootLess : FnScope ["measure", "one", "other"] ["measure", "one", "other"] (defScope s_RootLess) := ⟨rfl, rfl, rfl, by decide +kernel, rfl, by decide +kernel, by decide +kernel⟩

abbrev s_RootTimes : Stmt := top 17

abbrev N_RootTimes : List Str := ["measure", "one", "other"]

theorem scRootTimes : FnScope ["measure", "one", "other"] ["measure", "one", "other"] (defScope s_RootTimes) := ⟨rfl, rfl, rfl, by decide +kernel, rfl, by decide +kernel, by decide +kernel⟩

abbrev s_RootOver : Stmt := top 18

abbrev N_RootOver : List Str := ["measure", "one", "other", "x", "y", "below", "norm"]

theorem scRootOver : FnScope ["measure", "one", "other", "x", "y", "below", "norm"] ["measure", "one", "other"] (defScope s_RootOver) := ⟨rfl, rfl, rfl, by decide +kernel, rfl, by decide +kernel, by decide +kernel⟩

abbrev s_RootSide : Stmt := top 19

abbrev N_RootSide : List Str := ["measure", "root", "x", "y", "_"]

theorem scRootSide : FnScope ["measure", "root", "x", "y", "_"] ["measure", "root"] (defScope s_RootSide) := ⟨rfl, rfl, rfl, by decide +kernel, rfl, by decide +kernel, by decide +kernel⟩

abbrev s_RootFloor : Stmt := top 20

abbrev N_RootFloor : List Str := ["measure", "root", "x", "y", "below"]

theorem scRootFloor : FnScope ["measure", "root", "x", "y", "below"] ["measure", "root"] (defScope s_RootFloor) := ⟨rfl, rfl, rfl, by decide +kernel, rfl, by decide +kernel, by decide +kernel⟩

abbrev s_Check : Stmt := top 21

abbrev N_Check : List Str := ["measure", "roots", "root"]

theorem scCheck : FnScope ["measure", "roots", "root"] ["measure", "roots"] (defScope s_Check) := ⟨rfl, rfl, rfl, by decide +kernel, rfl, by decide +kernel, by decide +kernel⟩

abbrev s_IsRootOf : Stmt := top 22

abbrev N_IsRootOf : List Str := ["measure", "value", "x", "y", "below"]

theorem scIsRootOf : FnScope ["measure", "value", "x", "y", "below"] ["measure", "value"] (defScope s_IsRootOf) := ⟨rfl, rfl, rfl, by decide +kernel, rfl, by decide +kernel, by decide +kernel⟩

abbrev s_HasWholeRoot : Stmt := top 23

abbrev N_HasWholeRoot : List Str := ["measure", "root"]

theorem scHasWholeRoot : FnScope ["measure", "root"] ["measure"] (defScope s_HasWholeRoot) := ⟨rfl, rfl, rfl, by decide +kernel, rfl, by decide +kernel, by decide +kernel⟩

abbrev s_Reduced : Stmt := top 24

abbrev N_Reduced : List Str := ["measure", "x", "y", "below", "common"]

theorem scReduced : FnScope ["measure", "x", "y", "below", "common"] ["measure", "x", "y", "below"] (defScope s_Reduced) := ⟨rfl, rfl, rfl, by decide +kernel, rfl, by decide +kernel, by decide +kernel⟩

abbrev s_Total : Stmt := top 25

abbrev N_Total : List Str := ["measure", "one", "other", "times", "x", "y", "below", "other_x", "other_y", "other_below", "sum_x", "sum_y"]

theorem scTotal : FnScope ["measure", "one", "other", "times", "x", "y", "below", "other_x", "other_y", "other_below", "sum_x", "sum_y"] ["measure", "one", "other", "times"] (defScope s_Total) := ⟨rfl, rfl, rfl, by decide +kernel, rfl, by decide +kernel, by decide +kernel⟩

abbrev s_Multiplied : Stmt := top 26

abbrev N_Multiplied : List Str := ["measure", "one", "other", "x", "y", "below", "other_x", "other_y", "other_below", "product_x", "product_y"]

theorem scMultiplied : FnScope ["measure", "one", "other", "x", "y", "below", "other_x", "other_y", "other_below", "product_x", "product_y"] ["measure", "one", "other"] (defScope s_Multiplied) := ⟨rfl, rfl, rfl, by decide +kernel, rfl, by decide +kernel, by decide +kernel⟩

abbrev s_Side : Stmt := top 27

abbrev N_Side : List Str := ["number"]

theorem scSide : FnScope ["number"] ["number"] (defScope s_Side) := ⟨rfl, rfl, rfl, by decide +kernel, rfl, by decide +kernel, by decide +kernel⟩

abbrev s_FloorOfMultiple : Stmt := top 28

abbrev N_FloorOfMultiple : List Str := ["measure", "times", "square"]

theorem scFloorOfMultiple : FnScope ["measure", "times", "square"] ["measure", "times"] (defScope s_FloorOfMultiple) := ⟨rfl, rfl, rfl, by decide +kernel, rfl, by decide +kernel, by decide +kernel⟩

abbrev s_LawHash : Stmt := top 30

abbrev N_LawHash : List Str := ["_law_seed", "_law_index", "_law_mixed"]

theorem scLawHash : FnScope ["_law_seed", "_law_index", "_law_mixed"] ["_law_seed", "_law_index"] (defScope s_LawHash) := ⟨rfl, rfl, rfl, by decide +kernel, rfl, by decide +kernel, by decide +kernel⟩

abbrev s_LawRandom : Stmt := top 31

abbrev N_LawRandom : List Str := ["_law_generator_here", "_law_bound", "_law_drawn_here", "_law_turn"]

theorem scLawRandom : FnScope ["_law_generator_here", "_law_bound", "_law_drawn_here", "_law_turn"] ["_law_generator_here", "_law_bound"] (defScope s_LawRandom) := ⟨rfl, rfl, rfl, by decide +kernel, rfl, by decide +kernel, by decide +kernel⟩

abbrev s_LawCell : Stmt := top 32

abbrev N_LawCell : List Str := ["_law_script", "_law_index"]

theorem scLawCell : FnScope ["_law_script", "_law_index"] ["_law_script", "_law_index"] (defScope s_LawCell) := ⟨rfl, rfl, rfl, by decide +kernel, rfl, by decide +kernel, by decide +kernel⟩

abbrev s_LawGenerator : Stmt := top 33

abbrev N_LawGenerator : List Str := ["_law_script", "_law_index", "_law_seed"]

theorem scLawGenerator : FnScope ["_law_script", "_law_index", "_law_seed"] ["_law_script", "_law_index"] (defScope s_LawGenerator) := ⟨rfl, rfl, rfl, by decide +kernel, rfl, by decide +kernel, by decide +kernel⟩

abbrev s_LawCommon : Stmt := top 34

abbrev N_LawCommon : List Str := ["_law_one", "_law_other", "_law_low", "_law_high"]

theorem scLawCommon : FnScope ["_law_one", "_law_other", "_law_low", "_law_high"] ["_law_one", "_law_other"] (defScope s_LawCommon) := ⟨rfl, rfl, rfl, by decide +kernel, rfl, by decide +kernel, by decide +kernel⟩

abbrev s_LawRoot : Stmt := top 35

abbrev N_LawRoot : List Str := ["_law_number", "_law_low", "_law_high", "_law_middle"]

theorem scLawRoot : FnScope ["_law_number", "_law_low", "_law_high", "_law_middle"] ["_law_number"] (defScope s_LawRoot) := ⟨rfl, rfl, rfl, by decide +kernel, rfl, by decide +kernel, by decide +kernel⟩

abbrev s_LawMeasure : Stmt := top 36

abbrev N_LawMeasure : List Str := ["_law_generator_here", "_law_figures", "_law_bound", "_law_turn", "_law_number", "_law_found"]

theorem scLawMeasure : FnScope ["_law_generator_here", "_law_figures", "_law_bound", "_law_turn", "_law_number", "_law_found"] ["_law_generator_here", "_law_figures"] (defScope s_LawMeasure) := ⟨rfl, rfl, rfl, by decide +kernel, rfl, by decide +kernel, by decide +kernel⟩

abbrev s_LawLeast : Stmt := top 37

abbrev N_LawLeast : List Str := ["_law_measure_here", "_law_x", "_law_y", "_law_below", "_law_root_here", "_law_common_here"]

theorem scLawLeast : FnScope ["_law_measure_here", "_law_x", "_law_y", "_law_below", "_law_root_here", "_law_common_here"] ["_law_measure_here", "_law_x", "_law_y", "_law_below"] (defScope s_LawLeast) := ⟨rfl, rfl, rfl, by decide +kernel, rfl, by decide +kernel, by decide +kernel⟩

abbrev s_LawDrawn : Stmt := top 38

abbrev N_LawDrawn : List Str := ["_law_generator_here", "_law_measure_here", "_law_figures", "_law_bound", "_law_turn", "_law_x", "_law_y", "_law_below"]

theorem scLawDrawn : FnScope ["_law_generator_here", "_law_measure_here", "_law_figures", "_law_bound", "_law_turn", "_law_x", "_law_y", "_law_below"] ["_law_generator_here", "_law_measure_here", "_law_figures"] (defScope s_LawDrawn) := ⟨rfl, rfl, rfl, by decide +kernel, rfl, by decide +kernel, by decide +kernel⟩

abbrev s_LawAsked : Stmt := top 39

abbrev N_LawAsked : List Str := ["_law_door", "_law_given"]

theorem scLawAsked : FnScope ["_law_door", "_law_given"] ["_law_door", "_law_given"] (defScope s_LawAsked) := ⟨rfl, rfl, rfl, by decide +kernel, rfl, by decide +kernel, by decide +kernel⟩

abbrev s_LawTold : Stmt := top 40

abbrev N_LawTold : List Str := ["_law_door", "_law_given", "_law_caught", "error", "_law_kinds"]

theorem scLawTold : FnScope ["_law_door", "_law_given", "_law_caught", "error", "_law_kinds"] ["_law_door", "_law_given"] (defScope s_LawTold) := ⟨rfl, rfl, rfl, by decide +kernel, rfl, by decide +kernel, by decide +kernel⟩

abbrev s_LawAllRefused : Stmt := top 41

abbrev N_LawAllRefused : List Str := ["_law_doors", "_law_given", "_law_due", "_law_odd", "_law_behind", "_law_door", "_law_kept"]

theorem scLawAllRefused : FnScope ["_law_doors", "_law_given", "_law_due", "_law_odd", "_law_behind", "_law_door", "_law_kept"] ["_law_doors", "_law_given", "_law_due", "_law_odd"] (defScope s_LawAllRefused) := ⟨rfl, rfl, rfl, by decide +kernel, rfl, by decide +kernel, by decide +kernel⟩

abbrev s_LawWrongRoots : Stmt := top 42

abbrev N_LawWrongRoots : List Str := ["_law_measure_here", "_law_root_here", "_law_found", "_law_whole"]

theorem scLawWrongRoots : FnScope ["_law_measure_here", "_law_root_here", "_law_found", "_law_whole"] ["_law_measure_here", "_law_root_here"] (defScope s_LawWrongRoots) := ⟨rfl, rfl, rfl, by decide +kernel, rfl, by decide +kernel, by decide +kernel⟩

abbrev s_Law : Stmt := top 43

abbrev N_Law : List Str := ["_law_script", "_law_generator_here", "_law_measure_here", "_law_one", "_law_other", "_law_odd", "_law_given", "_law_bad", "_law_told_here", "_law_some", "_law_good", "_law_door", "_law_item"]

theorem scLaw : FnScope ["_law_script", "_law_generator_here", "_law_measure_here", "_law_one", "_law_other", "_law_odd", "_law_given", "_law_bad", "_law_told_here", "_law_some", "_law_good", "_law_door", "_law_item"] ["_law_script"] (defScope s_Law) := ⟨rfl, rfl, rfl, by decide +kernel, rfl, by decide +kernel, by decide +kernel⟩

/-- what the top leaves of the names -/
structure Txt (K : PySem.W.Frag) (mg : Str → Option Value) : Prop where
  ValueError : mg "ValueError" = none
  abs : mg "abs" = none
  all : mg "all" = none
  bool : mg "bool" = none
  int : mg "int" = none
  isinstance : mg "isinstance" = none
  len : mg "len" = none
  list : mg "list" = none
  max : mg "max" = none
  range : mg "range" = none
  repr : mg "repr" = none
  sum : mg "sum" = none
  tuple : mg "tuple" = none
  gcd : mg "gcd" = some (.builtin "math.gcd")
  isqrt : mg "isqrt" = some (.builtin "math.isqrt")

section
variable {P : Program} {w : World} {K : PySem.W.Frag} {mg : Str → Option Value} {base : Heap}

theorem okLawHash {f : Addr} {fd : FuncData} (F : Fun K "_law_hash" "_law_hash" s_LawHash f fd) (T : Txt K mg) : FnOk P w K mg base CX0 1 f fd ["_law_seed", "_law_index"] (spHash) := by
  refine F.ok scLawHash (fun vs H Q E h => ?_) (fun cdv A outer s H vs Q E hr h => ?_)
  · obtain ⟨a, i, rfl, _⟩ := h
    rfl
  · obtain ⟨a, i, rfl, h0, h1, h2, h3, k⟩ := h
    refine ⟨_, (pss_cons (ps_set (i := 2) scLawHash.nd rfl (Or.inl rfl) (pe_op op_mod (pe_callTy cr_int (by rfl) T.int (by decide +kernel) (pa_cons (pe_op op_add (pe_op op_add (pe_op op_add (pe_op op_mulU (pv 0) pe_int) (pe_op op_mulU (pe_op op_mulU pe_int (pv 1)) (pv 1))) (pe_op op_mulU pe_int (pv 1))) pe_int) pa_nil)) pe_int))
        (pss_cons (ps_set (i := 2) scLawHash.nd rfl (Or.inl rfl) (pe_op op_mod (pe_callTy cr_int (by rfl) T.int (by decide +kernel) (pa_cons (pe_op op_add (pe_op op_add (pe_op op_mulU (pv 2) (pv 2)) (pe_op op_mulU pe_int (pv 1))) pe_int) pa_nil)) pe_int))
        (pss_one (ps_ret (pe_op op_mod (pe_callTy cr_int (by rfl) T.int (by decide +kernel) (pa_cons (pe_op op_mulU (pv 2) pe_int) pa_nil)) pe_int))))), ?_⟩
    have e0 : start N_LawHash [.int a, .int i] = [some (.int a), some (.int i), none] := rfl
    rw [e0]
    simp only [cxK, wipe, tYes, List.map_cons, List.map_nil, rIxL, rSum, tSl, rSlL, tNoPart, tPart, exists_and_left, and_assoc, V.ref.injEq, HO.lst.injEq, HO.tup.injEq, tFor_eq, iRng1, iRng2, iList, iTup, tLc_eq, tLst, tTup, gSub, rSetL, gT, gL, gTup, gCons, gNil, atI_0, atI_1, atI_2, atI_3, List.length_cons, List.length_nil, Nat.zero_add, Nat.reduceAdd, Nat.reduceLeDiff, ixN_30, ixN_31, ixN_32, Int.reduceLT, Int.reduceLE, Int.reduceNeg, upd_same, reduceCtorEq, false_and, exists_false, or_false, false_or, tSeq, tNext, tIfS, tRet, tRetN, tDrop, tAsg, gName, tPar, tPar3, tAug, ipI, tVar, tC, tOp, tUn, tCB, tD, tDK, tCons, tNil, rI, rI0, rU, tB, tTest, tCallS, tErr, tAnd, tOr, tNot, tAndV, tOrV, tNotV, tIf, rEq, rNe, scal_ii, scal_bb, scal_ss, rGcd_eq, tBits, List.set_cons_zero, List.set_cons_succ, List.getElem?_cons_zero, List.getElem?_cons_succ, Option.some.injEq, exists_eq_left', V.int.injEq, V.bl.injEq, V.str.injEq, true_and, and_true, decide_eq_true_eq, List.cons.injEq, exists_eq_left, Bool.false_eq_true, if_false, if_true, ite_true, ite_false, Bool.not_eq_true', decide_eq_false_iff_not, Bool.not_not]
    exact ⟨cmw (by omega) (by omega) (by omega) (by omega), cmw (by omega) (by omega) (by omega) (by omega), cmw (by omega) (by omega) (by omega) (by omega), cmw (by omega) (by omega) (by omega) (by omega), cmw (by omega) (by omega) (by omega) (by omega), cmw (by omega) (by omega) (by omega) (by omega), cmw (by omega) (by omega) (by omega) (by omega), k _ (by omega) (by omega)⟩

def InvRandom (g : Addr) (n : Int) (k : Nat) (H : Hp) : Nat → SV → Hp → Prop := fun i σ H2 => ∃ (d : Int) (t : Option V), σ = [some (.ref g), some (.int n), some (.int d), t] ∧ GenAt H2 g (k + i) ∧ Keep g H H2

theorem okLawRandom {f : Addr} {fd : FuncData} (F : Fun K "_law_random" "_law_random" s_LawRandom f fd) (T : Txt K mg) {fLawHash : Addr} {fdLawHash : FuncData} (D_LawHash : DefAt P w K mg base 1 "_law_hash" fLawHash fdLawHash ["_law_seed", "_law_index"] (spHash)) : FnOk P w K mg base CX0 2 f fd ["_law_generator_here", "_law_bound"] (spRandom) := by
  refine F.ok scLawRandom (fun vs H Q E h => ?_) (fun cdv A outer s H vs Q E hr h => ?_)
  · obtain ⟨g, n, k, rfl, _⟩ := h
    rfl
  · obtain ⟨g, n, k, rfl, hG, hk, hn1, hn2, kk⟩ := h
    obtain ⟨a, b, c, hg, ha0, ha1, hb0, hb1, hc0, hc1⟩ := id hG
    refine ⟨_, (pss_cons (ps_if (pt_cmpR op_gt (pe_ix ixL (pv 0) pe_int (fun _ _ => rfl)) pe_int (nomark _)) (pss_cons (ps_set (i := 2) scLawRandom.nd rfl (Or.inl rfl) (pe_op op_mod (pe_callTy cr_int (by rfl) T.int (by decide +kernel) (pa_cons (pe_ix ixL (pv 0) pe_int (fun _ _ => rfl)) pa_nil)) (pv 1)))
        (pss_cons (ps_asg (pe_op op_fdivX (pe_ix ixL (pv 0) pe_int (fun _ _ => rfl)) (pv 1)) (pg_sub (pv 0) pe_int set_list))
        (pss_one (ps_ret (pv 2))))) pss_nil)
        (pss_cons (ps_set (i := 2) scLawRandom.nd rfl (Or.inl rfl) pe_int)
        (pss_cons (ps_for PassesOwn.never rfl (pi_range1 rfl T.range (pa_cons (pe_op op_add pe_int (pe_op op_fdivX (pe_bits (pv 1)) pe_int)) pa_nil)) (pg_name (i := 3) scLawRandom.nd rfl (Or.inl rfl)) (pss_cons (ps_asg (pe_op op_add (pe_ix ixL (pv 0) pe_int (fun _ _ => rfl)) pe_int) (pg_sub (pv 0) pe_int set_list))
        (pss_one (ps_set (i := 2) scLawRandom.nd rfl (Or.inl rfl) (pe_op op_add (pe_op op_mulU (pv 2) pe_int) (pe_d D_LawHash hr (pa_cons (pe_ix ixL (pv 0) pe_int (fun _ _ => rfl)) (pa_cons (pe_ix ixL (pv 0) pe_int (fun _ _ => rfl)) pa_nil))))))))
        (pss_one (ps_ret (pe_op op_mod (pe_callTy cr_int (by rfl) T.int (by decide +kernel) (pa_cons (pv 2) pa_nil)) (pv 1))))))), ?_⟩
    have e0 : start N_LawRandom [.ref g, .int n] = [some (.ref g), some (.int n), none, none] := rfl
    rw [e0]
    simp only [cxK, wipe, tYes, List.map_cons, List.map_nil, rIxL, rSum, tSl, rSlL, tNoPart, tPart, exists_and_left, and_assoc, V.ref.injEq, HO.lst.injEq, HO.tup.injEq, tFor_eq, iRng1, iRng2, iList, iTup, tLc_eq, tLst, tTup, gSub, rSetL, gT, gL, gTup, gCons, gNil, atI_0, atI_1, atI_2, atI_3, List.length_cons, List.length_nil, Nat.zero_add, Nat.reduceAdd, Nat.reduceLeDiff, ixN_30, ixN_31, ixN_32, Int.reduceLT, Int.reduceLE, Int.reduceNeg, upd_same, reduceCtorEq, false_and, exists_false, or_false, false_or, tSeq, tNext, tIfS, tRet, tRetN, tDrop, tAsg, gName, tPar, tPar3, tAug, ipI, tVar, tC, tOp, tUn, tCB, tD, tDK, tCons, tNil, rI, rI0, rU, tB, tTest, tCallS, tErr, tAnd, tOr, tNot, tAndV, tOrV, tNotV, tIf, rEq, rNe, scal_ii, scal_bb, scal_ss, rGcd_eq, tBits, List.set_cons_zero, List.set_cons_succ, List.getElem?_cons_zero, List.getElem?_cons_succ, Option.some.injEq, exists_eq_left', V.int.injEq, V.bl.injEq, V.str.injEq, true_and, and_true, decide_eq_true_eq, List.cons.injEq, exists_eq_left, Bool.false_eq_true, if_false, if_true, ite_true, ite_false, Bool.not_eq_true', decide_eq_false_iff_not, Bool.not_not, hg]
    refine ite2 (fun hp => ?_) (fun hp => ?_)
    · refine ⟨by omega, cdiv (by omega) (by omega) (by omega), ?_⟩
      refine kk _ _ (Int.emod_nonneg _ (by omega)) (Int.emod_lt_of_pos _ (by omega)) ⟨a.fdiv n, b, c, upd_same, ?_, ?_, hb0, hb1, hc0, by omega⟩ (fun x u hx e => by rw [upd_ne hx]; exact e)
      · exact Int.fdiv_nonneg ha0 (by omega)
      · have h1 : a.fdiv n ≤ a := by
          rw [Int.fdiv_eq_ediv_of_nonneg a (by omega)]
          exact Int.ediv_le_self n ha0
        omega
    · have hib : Builtin.Int.intBits n ≤ 300 := PyProof.Rows.intBits_le (by omega)
      have hq : (0 : Int) ≤ (((Builtin.Int.intBits n : Nat) : Int).fdiv 30) ∧ (((Builtin.Int.intBits n : Nat) : Int).fdiv 30) ≤ 10 := by
        rw [Int.fdiv_eq_ediv_of_nonneg _ (by omega)]
        omega
      generalize hqe : (((Builtin.Int.intBits n : Nat) : Int).fdiv 30) = q at hq
      refine ⟨cdiv (by omega) (by omega) (by omega), by omega, by omega, ?_⟩
      refine forW_range (InvRandom g n k H) ⟨0, none, rfl, hG, Keep.refl _ _⟩ ?_ ?_
      · rintro i σ' H' hi ⟨d, t, rfl, ⟨a2, b2, c2, hg2, p1, p2, p3, p4, p5, p6⟩, kp⟩
        simp only [cxK, wipe, tYes, List.map_cons, List.map_nil, rIxL, rSum, tSl, rSlL, tNoPart, tPart, exists_and_left, and_assoc, V.ref.injEq, HO.lst.injEq, HO.tup.injEq, tFor_eq, iRng1, iRng2, iList, iTup, tLc_eq, tLst, tTup, gSub, rSetL, gT, gL, gTup, gCons, gNil, atI_0, atI_1, atI_2, atI_3, List.length_cons, List.length_nil, Nat.zero_add, Nat.reduceAdd, Nat.reduceLeDiff, ixN_30, ixN_31, ixN_32, Int.reduceLT, Int.reduceLE, Int.reduceNeg, upd_same, reduceCtorEq, false_and, exists_false, or_false, false_or, tSeq, tNext, tIfS, tRet, tRetN, tDrop, tAsg, gName, tPar, tPar3, tAug, ipI, tVar, tC, tOp, tUn, tCB, tD, tDK, tCons, tNil, rI, rI0, rU, tB, tTest, tCallS, tErr, tAnd, tOr, tNot, tAndV, tOrV, tNotV, tIf, rEq, rNe, scal_ii, scal_bb, scal_ss, rGcd_eq, tBits, List.set_cons_zero, List.set_cons_succ, List.getElem?_cons_zero, List.getElem?_cons_succ, Option.some.injEq, exists_eq_left', V.int.injEq, V.bl.injEq, V.str.injEq, true_and, and_true, decide_eq_true_eq, List.cons.injEq, exists_eq_left, Bool.false_eq_true, if_false, if_true, ite_true, ite_false, Bool.not_eq_true', decide_eq_false_iff_not, Bool.not_not, hg2]
        unfold spHash
        refine ⟨cmr (by decide) (by decide), b2, c2 + 1, rfl, p3, p4, by omega, by omega, fun hh q1 q2 => ?_⟩
        simp only [cxK, wipe, tYes, List.map_cons, List.map_nil, rIxL, rSum, tSl, rSlL, tNoPart, tPart, exists_and_left, and_assoc, V.ref.injEq, HO.lst.injEq, HO.tup.injEq, tFor_eq, iRng1, iRng2, iList, iTup, tLc_eq, tLst, tTup, gSub, rSetL, gT, gL, gTup, gCons, gNil, atI_0, atI_1, atI_2, atI_3, List.length_cons, List.length_nil, Nat.zero_add, Nat.reduceAdd, Nat.reduceLeDiff, ixN_30, ixN_31, ixN_32, Int.reduceLT, Int.reduceLE, Int.reduceNeg, upd_same, reduceCtorEq, false_and, exists_false, or_false, false_or, tSeq, tNext, tIfS, tRet, tRetN, tDrop, tAsg, gName, tPar, tPar3, tAug, ipI, tVar, tC, tOp, tUn, tCB, tD, tDK, tCons, tNil, rI, rI0, rU, tB, tTest, tCallS, tErr, tAnd, tOr, tNot, tAndV, tOrV, tNotV, tIf, rEq, rNe, scal_ii, scal_bb, scal_ss, rGcd_eq, tBits, List.set_cons_zero, List.set_cons_succ, List.getElem?_cons_zero, List.getElem?_cons_succ, Option.some.injEq, exists_eq_left', V.int.injEq, V.bl.injEq, V.str.injEq, true_and, and_true, decide_eq_true_eq, List.cons.injEq, exists_eq_left, Bool.false_eq_true, if_false, if_true, ite_true, ite_false, Bool.not_eq_true', decide_eq_false_iff_not, Bool.not_not]
        refine ⟨_, some (.int (0 + (i : Int))), rfl, ⟨a2, b2, c2 + 1, upd_same, p1, p2, p3, p4, by omega, by omega⟩, fun x u hx e => ?_⟩
        rw [upd_ne hx]
        exact kp x u hx e
      · rintro σ' H' ⟨d, t, rfl, gA, kp⟩
        simp only [cxK, wipe, tYes, List.map_cons, List.map_nil, rIxL, rSum, tSl, rSlL, tNoPart, tPart, exists_and_left, and_assoc, V.ref.injEq, HO.lst.injEq, HO.tup.injEq, tFor_eq, iRng1, iRng2, iList, iTup, tLc_eq, tLst, tTup, gSub, rSetL, gT, gL, gTup, gCons, gNil, atI_0, atI_1, atI_2, atI_3, List.length_cons, List.length_nil, Nat.zero_add, Nat.reduceAdd, Nat.reduceLeDiff, ixN_30, ixN_31, ixN_32, Int.reduceLT, Int.reduceLE, Int.reduceNeg, upd_same, reduceCtorEq, false_and, exists_false, or_false, false_or, tSeq, tNext, tIfS, tRet, tRetN, tDrop, tAsg, gName, tPar, tPar3, tAug, ipI, tVar, tC, tOp, tUn, tCB, tD, tDK, tCons, tNil, rI, rI0, rU, tB, tTest, tCallS, tErr, tAnd, tOr, tNot, tAndV, tOrV, tNotV, tIf, rEq, rNe, scal_ii, scal_bb, scal_ss, rGcd_eq, tBits, List.set_cons_zero, List.set_cons_succ, List.getElem?_cons_zero, List.getElem?_cons_succ, Option.some.injEq, exists_eq_left', V.int.injEq, V.bl.injEq, V.str.injEq, true_and, and_true, decide_eq_true_eq, List.cons.injEq, exists_eq_left, Bool.false_eq_true, if_false, if_true, ite_true, ite_false, Bool.not_eq_true', decide_eq_false_iff_not, Bool.not_not]
        exact ⟨by omega, kk _ _ (Int.emod_nonneg _ (by omega)) (Int.emod_lt_of_pos _ (by omega)) (gA.mono (by omega)) kp⟩

theorem okLawCell {f : Addr} {fd : FuncData} (F : Fun K "_law_cell" "_law_cell" s_LawCell f fd) (T : Txt K mg) : FnOk P w K mg base CX0 1 f fd ["_law_script", "_law_index"] (spCell K) := by
  refine F.ok scLawCell (fun vs H Q E h => ?_) (fun cdv A outer s H vs Q E hr h => ?_)
  · obtain ⟨a, ns, i, rfl, _⟩ := h
    rfl
  · obtain ⟨a, ns, i, rfl, hS, h0, h1, kk⟩ := h
    refine ⟨_, (pss_cons (ps_if (pt_cmpR op_lt (pv 1) (pe_callB call_len_seq (by rfl) T.len (by decide +kernel) (pa_cons (pv 0) pa_nil)) (nomark _)) (pss_one (ps_ret (pe_ix ix_list (pv 0) (pv 1) (fun _ _ => rfl)))) pss_nil)
        (pss_one (ps_ret (pe_op op_mod (pe_callB (cr_sum rfl) (by rfl) T.sum (by decide +kernel) (pa_cons (pe_slice sl_list (pv 0) po_none (po_some pe_int)) pa_nil)) pe_int)))), ?_⟩
    have e0 : start N_LawCell [.ref a, .int i] = [some (.ref a), some (.int i)] := rfl
    rw [e0]
    simp only [cxK, wipe, tYes, List.map_cons, List.map_nil, rIxL, rSum, tSl, rSlL, tNoPart, tPart, exists_and_left, and_assoc, V.ref.injEq, HO.lst.injEq, HO.tup.injEq, tFor_eq, iRng1, iRng2, iList, iTup, tLc_eq, tLst, tTup, gSub, rSetL, gT, gL, gTup, gCons, gNil, atI_0, atI_1, atI_2, atI_3, List.length_cons, List.length_nil, Nat.zero_add, Nat.reduceAdd, Nat.reduceLeDiff, ixN_30, ixN_31, ixN_32, Int.reduceLT, Int.reduceLE, Int.reduceNeg, upd_same, reduceCtorEq, false_and, exists_false, or_false, false_or, tSeq, tNext, tIfS, tRet, tRetN, tDrop, tAsg, gName, tPar, tPar3, tAug, ipI, tVar, tC, tOp, tUn, tCB, tD, tDK, tCons, tNil, rI, rI0, rU, tB, tTest, tCallS, tErr, tAnd, tOr, tNot, tAndV, tOrV, tNotV, tIf, rEq, rNe, scal_ii, scal_bb, scal_ss, rGcd_eq, tBits, List.set_cons_zero, List.set_cons_succ, List.getElem?_cons_zero, List.getElem?_cons_succ, Option.some.injEq, exists_eq_left', V.int.injEq, V.bl.injEq, V.str.injEq, true_and, and_true, decide_eq_true_eq, List.cons.injEq, exists_eq_left, Bool.false_eq_true, if_false, if_true, ite_true, ite_false, Bool.not_eq_true', decide_eq_false_iff_not, Bool.not_not]
    refine ⟨ns.map V.int, .inl hS, ite2 (fun hp => ?_) (fun hp => ?_)⟩
    · have hi : i.toNat < ns.length := by rw [List.length_map] at hp; omega
      refine ⟨ns.map V.int, hS, .int (ns[i.toNat]), ?_, kk _ _ (Same.refl _)⟩
      exact at_of (j := i.toNat) (by omega) (by rw [List.getElem?_map, List.getElem?_eq_getElem hi]; rfl)
    · refine ⟨ns.map V.int, hS, fun p np => ⟨ns.take 1, .inl (.inl ?_), kk _ _ (Same.upd np)⟩⟩
      rw [upd_same, cut1, List.map_take]

theorem okLawGenerator {f : Addr} {fd : FuncData} (F : Fun K "_law_generator" "_law_generator" s_LawGenerator f fd) (T : Txt K mg) {fLawCell : Addr} {fdLawCell : FuncData} (D_LawCell : DefAt P w K mg base 1 "_law_cell" fLawCell fdLawCell ["_law_script", "_law_index"] (spCell K)) : FnOk P w K mg base CX0 2 f fd ["_law_script", "_law_index"] (spGen K) := by
  refine F.ok scLawGenerator (fun vs H Q E h => ?_) (fun cdv A outer s H vs Q E hr h => ?_)
  · obtain ⟨a, ns, i, rfl, _⟩ := h
    rfl
  · obtain ⟨a, ns, i, rfl, hS, h0, h1, kk⟩ := h
    refine ⟨_, (pss_cons (ps_set (i := 2) scLawGenerator.nd rfl (Or.inl rfl) (pe_d D_LawCell hr (pa_cons (pv 0) (pa_cons (pv 1) pa_nil))))
        (pss_one (ps_ret (pe_lst (pa_cons (pe_op op_mod (pe_callTy cr_int (by rfl) T.int (by decide +kernel) (pa_cons (pe_callB (call_max2 rfl) (by rfl) T.max (by decide +kernel) (pa_cons (pe_op op_sub (pv 2) (pe_op op_powX pe_int pe_int)) (pa_cons pe_int pa_nil))) pa_nil)) (pe_op op_powX (pe_op op_powX pe_int pe_int) pe_int)) (pa_cons (pe_op op_mod (pe_callTy cr_int (by rfl) T.int (by decide +kernel) (pa_cons (pv 2) pa_nil)) pe_int) (pa_cons (pe_op op_mulU pe_int (pv 1)) pa_nil))))))), ?_⟩
    have e0 : start N_LawGenerator [.ref a, .int i] = [some (.ref a), some (.int i), none] := rfl
    rw [e0]
    simp only [cxK, wipe, tYes, List.map_cons, List.map_nil, rIxL, rSum, tSl, rSlL, tNoPart, tPart, exists_and_left, and_assoc, V.ref.injEq, HO.lst.injEq, HO.tup.injEq, tFor_eq, iRng1, iRng2, iList, iTup, tLc_eq, tLst, tTup, gSub, rSetL, gT, gL, gTup, gCons, gNil, atI_0, atI_1, atI_2, atI_3, List.length_cons, List.length_nil, Nat.zero_add, Nat.reduceAdd, Nat.reduceLeDiff, ixN_30, ixN_31, ixN_32, Int.reduceLT, Int.reduceLE, Int.reduceNeg, upd_same, reduceCtorEq, false_and, exists_false, or_false, false_or, tSeq, tNext, tIfS, tRet, tRetN, tDrop, tAsg, gName, tPar, tPar3, tAug, ipI, tVar, tC, tOp, tUn, tCB, tD, tDK, tCons, tNil, rI, rI0, rU, tB, tTest, tCallS, tErr, tAnd, tOr, tNot, tAndV, tOrV, tNotV, tIf, rEq, rNe, scal_ii, scal_bb, scal_ss, rGcd_eq, tBits, List.set_cons_zero, List.set_cons_succ, List.getElem?_cons_zero, List.getElem?_cons_succ, Option.some.injEq, exists_eq_left', V.int.injEq, V.bl.injEq, V.str.injEq, true_and, and_true, decide_eq_true_eq, List.cons.injEq, exists_eq_left, Bool.false_eq_true, if_false, if_true, ite_true, ite_false, Bool.not_eq_true', decide_eq_false_iff_not, Bool.not_not]
    have hm : (0 : Int) < (10 ^ Int.toNat 60) ^ Int.toNat 10 := by decide +kernel
    have hm2 : ((10 : Int) ^ Int.toNat 60) ^ Int.toNat 10 < 2 ^ 2000 := by decide +kernel
    have hm3 : -(2 ^ 2500) < (10 : Int) ^ Int.toNat 60 := by decide +kernel
    have hm4 : (10 : Int) ^ Int.toNat 60 < 2 ^ 2500 := by decide +kernel
    refine ⟨a, ns, i, rfl, hS, h0, h1, fun r H1 s1 => ⟨cpow (by decide) (by decide) (by decide) (by decide), r, rfl, cpow (by decide) (by decide) (by decide) (by decide), cpow (by decide) (by decide) hm3 hm4, hm, r, rfl, cml (by decide) (by decide), by decide, fun p np => ?_⟩⟩
    refine kk p _ (s1.free np) (s1.trans (Same.upd np)) ⟨_, _, _, upd_same, Int.emod_nonneg _ (by omega), Int.lt_trans (Int.emod_lt_of_pos _ hm) hm2, by omega, by omega, by omega, by omega⟩

def InvCommon (a b : Int) (H : Hp) : SV → Hp → Prop := fun σ H2 => ∃ x y : Int, σ = [some (.int a), some (.int b), some (.int x), some (.int y)] ∧ 0 ≤ x ∧ 0 ≤ y ∧ gcdI x y = gcdI a b ∧ H2 = H

theorem okLawCommon {f : Addr} {fd : FuncData} (F : Fun K "_law_common" "_law_common" s_LawCommon f fd) (T : Txt K mg) : FnOk P w K mg base CX0 1 f fd ["_law_one", "_law_other"] (spCommon) := by
  refine F.ok scLawCommon (fun vs H Q E h => ?_) (fun cdv A outer s H vs Q E hr h => ?_)
  · obtain ⟨a, b, rfl, _⟩ := h
    rfl
  · obtain ⟨a, b, rfl, kk⟩ := h
    refine ⟨_, (pss_cons (ps_par (i := 2) (j := 3) rfl scLawCommon.nd rfl rfl (by decide) rfl rfl (pa_cons (pe_callB call_abs (by rfl) T.abs (by decide +kernel) (pa_cons (pv 0) pa_nil)) (pa_cons (pe_callB call_abs (by rfl) T.abs (by decide +kernel) (pa_cons (pv 1) pa_nil)) pa_nil)) rfl)
        (pss_cons (ps_while PassesOwn.never (pt_cmpR op_ne (pv 3) pe_int (nomark _)) (pss_one (ps_par (i := 2) (j := 3) rfl scLawCommon.nd rfl rfl (by decide) rfl rfl (pa_cons (pv 3) (pa_cons (pe_op op_mod (pe_callTy cr_int (by rfl) T.int (by decide +kernel) (pa_cons (pv 2) pa_nil)) (pv 3)) pa_nil)) rfl)))
        (pss_one (ps_ret (pv 2))))), ?_⟩
    have e0 : start N_LawCommon [.int a, .int b] = [some (.int a), some (.int b), none, none] := rfl
    rw [e0]
    simp only [cxK, wipe, tYes, List.map_cons, List.map_nil, rIxL, rSum, tSl, rSlL, tNoPart, tPart, exists_and_left, and_assoc, V.ref.injEq, HO.lst.injEq, HO.tup.injEq, tFor_eq, iRng1, iRng2, iList, iTup, tLc_eq, tLst, tTup, gSub, rSetL, gT, gL, gTup, gCons, gNil, atI_0, atI_1, atI_2, atI_3, List.length_cons, List.length_nil, Nat.zero_add, Nat.reduceAdd, Nat.reduceLeDiff, ixN_30, ixN_31, ixN_32, Int.reduceLT, Int.reduceLE, Int.reduceNeg, upd_same, reduceCtorEq, false_and, exists_false, or_false, false_or, tSeq, tNext, tIfS, tRet, tRetN, tDrop, tAsg, gName, tPar, tPar3, tAug, ipI, tVar, tC, tOp, tUn, tCB, tD, tDK, tCons, tNil, rI, rI0, rU, tB, tTest, tCallS, tErr, tAnd, tOr, tNot, tAndV, tOrV, tNotV, tIf, rEq, rNe, scal_ii, scal_bb, scal_ss, rGcd_eq, tBits, List.set_cons_zero, List.set_cons_succ, List.getElem?_cons_zero, List.getElem?_cons_succ, Option.some.injEq, exists_eq_left', V.int.injEq, V.bl.injEq, V.str.injEq, true_and, and_true, decide_eq_true_eq, List.cons.injEq, exists_eq_left, Bool.false_eq_true, if_false, if_true, ite_true, ite_false, Bool.not_eq_true', decide_eq_false_iff_not, Bool.not_not]
    refine whileI (InvCommon a b H) (fun σ _ => slotN σ 3) ⟨_, _, rfl, by split <;> omega, by split <;> omega, gcdI_abs a b, rfl⟩ ?_
    rintro σ' H' ⟨x, y, rfl, hx, hy, e, rfl⟩
    simp only [cxK, wipe, tYes, List.map_cons, List.map_nil, rIxL, rSum, tSl, rSlL, tNoPart, tPart, exists_and_left, and_assoc, V.ref.injEq, HO.lst.injEq, HO.tup.injEq, tFor_eq, iRng1, iRng2, iList, iTup, tLc_eq, tLst, tTup, gSub, rSetL, gT, gL, gTup, gCons, gNil, atI_0, atI_1, atI_2, atI_3, List.length_cons, List.length_nil, Nat.zero_add, Nat.reduceAdd, Nat.reduceLeDiff, ixN_30, ixN_31, ixN_32, Int.reduceLT, Int.reduceLE, Int.reduceNeg, upd_same, reduceCtorEq, false_and, exists_false, or_false, false_or, tSeq, tNext, tIfS, tRet, tRetN, tDrop, tAsg, gName, tPar, tPar3, tAug, ipI, tVar, tC, tOp, tUn, tCB, tD, tDK, tCons, tNil, rI, rI0, rU, tB, tTest, tCallS, tErr, tAnd, tOr, tNot, tAndV, tOrV, tNotV, tIf, rEq, rNe, scal_ii, scal_bb, scal_ss, rGcd_eq, tBits, List.set_cons_zero, List.set_cons_succ, List.getElem?_cons_zero, List.getElem?_cons_succ, Option.some.injEq, exists_eq_left', V.int.injEq, V.bl.injEq, V.str.injEq, true_and, and_true, decide_eq_true_eq, List.cons.injEq, exists_eq_left, Bool.false_eq_true, if_false, if_true, ite_true, ite_false, Bool.not_eq_true', decide_eq_false_iff_not, Bool.not_not]
    by_cases h : y = 0
    · subst h
      rw [if_neg (by simp)]
      rw [gcdI_zero hx] at e
      rw [e]
      exact kk
    · rw [if_pos (by simpa using h)]
      refine wstep ?_
      simp only [cxK, wipe, tYes, List.map_cons, List.map_nil, rIxL, rSum, tSl, rSlL, tNoPart, tPart, exists_and_left, and_assoc, V.ref.injEq, HO.lst.injEq, HO.tup.injEq, tFor_eq, iRng1, iRng2, iList, iTup, tLc_eq, tLst, tTup, gSub, rSetL, gT, gL, gTup, gCons, gNil, atI_0, atI_1, atI_2, atI_3, List.length_cons, List.length_nil, Nat.zero_add, Nat.reduceAdd, Nat.reduceLeDiff, ixN_30, ixN_31, ixN_32, Int.reduceLT, Int.reduceLE, Int.reduceNeg, upd_same, reduceCtorEq, false_and, exists_false, or_false, false_or, tSeq, tNext, tIfS, tRet, tRetN, tDrop, tAsg, gName, tPar, tPar3, tAug, ipI, tVar, tC, tOp, tUn, tCB, tD, tDK, tCons, tNil, rI, rI0, rU, tB, tTest, tCallS, tErr, tAnd, tOr, tNot, tAndV, tOrV, tNotV, tIf, rEq, rNe, scal_ii, scal_bb, scal_ss, rGcd_eq, tBits, List.set_cons_zero, List.set_cons_succ, List.getElem?_cons_zero, List.getElem?_cons_succ, Option.some.injEq, exists_eq_left', V.int.injEq, V.bl.injEq, V.str.injEq, true_and, and_true, decide_eq_true_eq, List.cons.injEq, exists_eq_left, Bool.false_eq_true, if_false, if_true, ite_true, ite_false, Bool.not_eq_true', decide_eq_false_iff_not, Bool.not_not]
      refine ⟨by omega, ⟨y, x % y, rfl, hy, Int.emod_nonneg _ (by omega), (gcdI_step hx (by omega)).trans e, rfl⟩, ?_⟩
      show (x % y).toNat < y.toNat
      have := Int.emod_lt_of_pos x (show 0 < y by omega)
      omega

def InvRoot1 (n : Int) (H : Hp) : SV → Hp → Prop := fun σ H2 => ∃ x : Int, σ = [some (.int n), some (.int 0), some (.int x), none] ∧ 1 ≤ x ∧ x ≤ 2 * n + 1 ∧ Same H H2
def InvRoot2 (n : Int) (H : Hp) : SV → Hp → Prop := fun σ H2 => ∃ (l u : Int) (m : Option V), σ = [some (.int n), some (.int l), some (.int u), m] ∧ 0 ≤ l ∧ l < u ∧ u ≤ 2 * n + 1 ∧ l * l ≤ n ∧ n < u * u ∧ Same H H2

theorem okLawRoot {f : Addr} {fd : FuncData} (F : Fun K "_law_root" "_law_root" s_LawRoot f fd) (T : Txt K mg) : FnOk P w K mg base CX0 1 f fd ["_law_number"] (spRoot) := by
  refine F.ok scLawRoot (fun vs H Q E h => ?_) (fun cdv A outer s H vs Q E hr h => ?_)
  · obtain ⟨n, rfl, _⟩ := h
    rfl
  · obtain ⟨n, rfl, h0, h1, kk⟩ := h
    refine ⟨_, (pss_cons (ps_asg (pe_tup (pa_cons pe_int (pa_cons pe_int pa_nil))) (pg_tupT 2 rfl (pgs_cons (pg_name (i := 1) scLawRoot.nd rfl (Or.inl rfl)) (pgs_cons (pg_name (i := 2) scLawRoot.nd rfl (Or.inl rfl)) pgs_nil))))
        (pss_cons (ps_while PassesOwn.never (pt_cmpR op_le (pe_op op_mulU (pv 2) (pv 2)) (pv 0) (nomark _)) (pss_one (ps_set (i := 2) scLawRoot.nd rfl (Or.inl rfl) (pe_op op_mulU pe_int (pv 2)))))
        (pss_cons (ps_while PassesOwn.never (pt_cmpR op_gt (pe_op op_sub (pv 2) (pv 1)) pe_int (nomark _)) (pss_cons (ps_set (i := 3) scLawRoot.nd rfl (Or.inl rfl) (pe_op op_fdivX (pe_op op_add (pv 1) (pv 2)) pe_int))
        (pss_one (ps_asg (pe_ifExp (pt_cmpR op_le (pe_op op_mulU (pv 3) (pv 3)) (pv 0) (nomark _)) (pe_tup (pa_cons (pv 3) (pa_cons (pv 2) pa_nil))) (pe_tup (pa_cons (pv 1) (pa_cons (pv 3) pa_nil)))) (pg_tupT 2 rfl (pgs_cons (pg_name (i := 1) scLawRoot.nd rfl (Or.inl rfl)) (pgs_cons (pg_name (i := 2) scLawRoot.nd rfl (Or.inl rfl)) pgs_nil)))))))
        (pss_one (ps_ret (pv 1)))))), ?_⟩
    have e0 : start N_LawRoot [.int n] = [some (.int n), none, none, none] := rfl
    rw [e0]
    simp only [cxK, wipe, tYes, List.map_cons, List.map_nil, rIxL, rSum, tSl, rSlL, tNoPart, tPart, exists_and_left, and_assoc, V.ref.injEq, HO.lst.injEq, HO.tup.injEq, tFor_eq, iRng1, iRng2, iList, iTup, tLc_eq, tLst, tTup, gSub, rSetL, gT, gL, gTup, gCons, gNil, atI_0, atI_1, atI_2, atI_3, List.length_cons, List.length_nil, Nat.zero_add, Nat.reduceAdd, Nat.reduceLeDiff, ixN_30, ixN_31, ixN_32, Int.reduceLT, Int.reduceLE, Int.reduceNeg, upd_same, reduceCtorEq, false_and, exists_false, or_false, false_or, tSeq, tNext, tIfS, tRet, tRetN, tDrop, tAsg, gName, tPar, tPar3, tAug, ipI, tVar, tC, tOp, tUn, tCB, tD, tDK, tCons, tNil, rI, rI0, rU, tB, tTest, tCallS, tErr, tAnd, tOr, tNot, tAndV, tOrV, tNotV, tIf, rEq, rNe, scal_ii, scal_bb, scal_ss, rGcd_eq, tBits, List.set_cons_zero, List.set_cons_succ, List.getElem?_cons_zero, List.getElem?_cons_succ, Option.some.injEq, exists_eq_left', V.int.injEq, V.bl.injEq, V.str.injEq, true_and, and_true, decide_eq_true_eq, List.cons.injEq, exists_eq_left, Bool.false_eq_true, if_false, if_true, ite_true, ite_false, Bool.not_eq_true', decide_eq_false_iff_not, Bool.not_not]
    refine ⟨by decide, fun p np => ?_⟩
    refine whileI (InvRoot1 n H) (fun σ _ => (n + 1).toNat - slotN σ 2) ⟨1, rfl, by omega, by omega, Same.upd np⟩ ?_
    rintro σ' H' ⟨x, rfl, hx, hx2, sm⟩
    simp only [cxK, wipe, tYes, List.map_cons, List.map_nil, rIxL, rSum, tSl, rSlL, tNoPart, tPart, exists_and_left, and_assoc, V.ref.injEq, HO.lst.injEq, HO.tup.injEq, tFor_eq, iRng1, iRng2, iList, iTup, tLc_eq, tLst, tTup, gSub, rSetL, gT, gL, gTup, gCons, gNil, atI_0, atI_1, atI_2, atI_3, List.length_cons, List.length_nil, Nat.zero_add, Nat.reduceAdd, Nat.reduceLeDiff, ixN_30, ixN_31, ixN_32, Int.reduceLT, Int.reduceLE, Int.reduceNeg, upd_same, reduceCtorEq, false_and, exists_false, or_false, false_or, tSeq, tNext, tIfS, tRet, tRetN, tDrop, tAsg, gName, tPar, tPar3, tAug, ipI, tVar, tC, tOp, tUn, tCB, tD, tDK, tCons, tNil, rI, rI0, rU, tB, tTest, tCallS, tErr, tAnd, tOr, tNot, tAndV, tOrV, tNotV, tIf, rEq, rNe, scal_ii, scal_bb, scal_ss, rGcd_eq, tBits, List.set_cons_zero, List.set_cons_succ, List.getElem?_cons_zero, List.getElem?_cons_succ, Option.some.injEq, exists_eq_left', V.int.injEq, V.bl.injEq, V.str.injEq, true_and, and_true, decide_eq_true_eq, List.cons.injEq, exists_eq_left, Bool.false_eq_true, if_false, if_true, ite_true, ite_false, Bool.not_eq_true', decide_eq_false_iff_not, Bool.not_not]
    refine ⟨cmw (by omega) (by omega) (by omega) (by omega), ite2 (fun hc => wstep ?_) (fun hc => ?_)⟩
    · simp only [cxK, wipe, tYes, List.map_cons, List.map_nil, rIxL, rSum, tSl, rSlL, tNoPart, tPart, exists_and_left, and_assoc, V.ref.injEq, HO.lst.injEq, HO.tup.injEq, tFor_eq, iRng1, iRng2, iList, iTup, tLc_eq, tLst, tTup, gSub, rSetL, gT, gL, gTup, gCons, gNil, atI_0, atI_1, atI_2, atI_3, List.length_cons, List.length_nil, Nat.zero_add, Nat.reduceAdd, Nat.reduceLeDiff, ixN_30, ixN_31, ixN_32, Int.reduceLT, Int.reduceLE, Int.reduceNeg, upd_same, reduceCtorEq, false_and, exists_false, or_false, false_or, tSeq, tNext, tIfS, tRet, tRetN, tDrop, tAsg, gName, tPar, tPar3, tAug, ipI, tVar, tC, tOp, tUn, tCB, tD, tDK, tCons, tNil, rI, rI0, rU, tB, tTest, tCallS, tErr, tAnd, tOr, tNot, tAndV, tOrV, tNotV, tIf, rEq, rNe, scal_ii, scal_bb, scal_ss, rGcd_eq, tBits, List.set_cons_zero, List.set_cons_succ, List.getElem?_cons_zero, List.getElem?_cons_succ, Option.some.injEq, exists_eq_left', V.int.injEq, V.bl.injEq, V.str.injEq, true_and, and_true, decide_eq_true_eq, List.cons.injEq, exists_eq_left, Bool.false_eq_true, if_false, if_true, ite_true, ite_false, Bool.not_eq_true', decide_eq_false_iff_not, Bool.not_not]
      have hxn : x ≤ n := Int.le_trans (by have := Int.mul_le_mul_of_nonneg_right hx (show 0 ≤ x by omega); omega) hc
      refine ⟨cml (by decide) (by decide), ⟨2 * x, rfl, by omega, by omega, sm⟩, ?_⟩
      show (n + 1).toNat - (2 * x).toNat < (n + 1).toNat - x.toNat
      omega
    · refine whileI (InvRoot2 n H) (fun σ _ => slotN σ 2 - slotN σ 1) ⟨0, x, none, rfl, by omega, by omega, hx2, by omega, by omega, sm⟩ ?_
      rintro σ' H2 ⟨l, u, m, rfl, hl, hlu, hu, q1, q2, sm2⟩
      simp only [cxK, wipe, tYes, List.map_cons, List.map_nil, rIxL, rSum, tSl, rSlL, tNoPart, tPart, exists_and_left, and_assoc, V.ref.injEq, HO.lst.injEq, HO.tup.injEq, tFor_eq, iRng1, iRng2, iList, iTup, tLc_eq, tLst, tTup, gSub, rSetL, gT, gL, gTup, gCons, gNil, atI_0, atI_1, atI_2, atI_3, List.length_cons, List.length_nil, Nat.zero_add, Nat.reduceAdd, Nat.reduceLeDiff, ixN_30, ixN_31, ixN_32, Int.reduceLT, Int.reduceLE, Int.reduceNeg, upd_same, reduceCtorEq, false_and, exists_false, or_false, false_or, tSeq, tNext, tIfS, tRet, tRetN, tDrop, tAsg, gName, tPar, tPar3, tAug, ipI, tVar, tC, tOp, tUn, tCB, tD, tDK, tCons, tNil, rI, rI0, rU, tB, tTest, tCallS, tErr, tAnd, tOr, tNot, tAndV, tOrV, tNotV, tIf, rEq, rNe, scal_ii, scal_bb, scal_ss, rGcd_eq, tBits, List.set_cons_zero, List.set_cons_succ, List.getElem?_cons_zero, List.getElem?_cons_succ, Option.some.injEq, exists_eq_left', V.int.injEq, V.bl.injEq, V.str.injEq, true_and, and_true, decide_eq_true_eq, List.cons.injEq, exists_eq_left, Bool.false_eq_true, if_false, if_true, ite_true, ite_false, Bool.not_eq_true', decide_eq_false_iff_not, Bool.not_not]
      refine ite2 (fun hc2 => wstep ?_) (fun hc2 => ?_)
      · simp only [cxK, wipe, tYes, List.map_cons, List.map_nil, rIxL, rSum, tSl, rSlL, tNoPart, tPart, exists_and_left, and_assoc, V.ref.injEq, HO.lst.injEq, HO.tup.injEq, tFor_eq, iRng1, iRng2, iList, iTup, tLc_eq, tLst, tTup, gSub, rSetL, gT, gL, gTup, gCons, gNil, atI_0, atI_1, atI_2, atI_3, List.length_cons, List.length_nil, Nat.zero_add, Nat.reduceAdd, Nat.reduceLeDiff, ixN_30, ixN_31, ixN_32, Int.reduceLT, Int.reduceLE, Int.reduceNeg, upd_same, reduceCtorEq, false_and, exists_false, or_false, false_or, tSeq, tNext, tIfS, tRet, tRetN, tDrop, tAsg, gName, tPar, tPar3, tAug, ipI, tVar, tC, tOp, tUn, tCB, tD, tDK, tCons, tNil, rI, rI0, rU, tB, tTest, tCallS, tErr, tAnd, tOr, tNot, tAndV, tOrV, tNotV, tIf, rEq, rNe, scal_ii, scal_bb, scal_ss, rGcd_eq, tBits, List.set_cons_zero, List.set_cons_succ, List.getElem?_cons_zero, List.getElem?_cons_succ, Option.some.injEq, exists_eq_left', V.int.injEq, V.bl.injEq, V.str.injEq, true_and, and_true, decide_eq_true_eq, List.cons.injEq, exists_eq_left, Bool.false_eq_true, if_false, if_true, ite_true, ite_false, Bool.not_eq_true', decide_eq_false_iff_not, Bool.not_not]
        have hmid : (l + u).fdiv 2 = (l + u) / 2 := Int.fdiv_eq_ediv_of_nonneg _ (by decide)
        rw [hmid]
        generalize hme : (l + u) / 2 = mm
        have hm1 : l < mm := by omega
        have hm2 : mm < u := by omega
        refine ⟨cdiv (by decide) (by decide) (by decide), cmw (by omega) (by omega) (by omega) (by omega), ite2 (fun hc3 => ?_) (fun hc3 => ?_)⟩
        · refine ⟨by decide, fun p2 np2 => ⟨⟨mm, u, _, rfl, by omega, hm2, hu, hc3, q2, sm2.trans (Same.upd np2)⟩, ?_⟩⟩
          show u.toNat - mm.toNat < u.toNat - l.toNat
          omega
        · refine ⟨by decide, fun p2 np2 => ⟨⟨l, mm, _, rfl, hl, hm1, by omega, q1, by omega, sm2.trans (Same.upd np2)⟩, ?_⟩⟩
          show mm.toNat - l.toNat < u.toNat - l.toNat
          omega
      · have e : u = l + 1 := by omega
        subst e
        rw [rt_unique h0 hl q1 q2]
        exact kk _ sm2

abbrev s_iInvalidMeasure : Stmt := initOf (top 3)

theorem sciInvalidMeasure : FnScope ["self", "value"] ["self", "value"] (defScope s_iInvalidMeasure) := ⟨rfl, rfl, rfl, by decide +kernel, rfl, by decide +kernel, by decide +kernel⟩

theorem okiInvalidMeasure {f C : Addr} {fd : FuncData} (F : FunD K "__init__" "InvalidMeasure.__init__" (defArgs s_iInvalidMeasure) (defBody s_iInvalidMeasure) (defScope s_iInvalidMeasure) [V.non] [] f fd) (T : OexC K C) (nv : PySem.W.findIn K (.ref C) "value" = some none) : FnOk P w K mg base CX0 1 f fd ["self", "value"] (spInit C) := by
  refine F.ok (N := ["self", "value"]) sciInvalidMeasure (fun vs H Q E h => ?_) (fun cdv A outer s H vs Q E hr h => ?_)
  · obtain ⟨a, v, rfl, _⟩ := h
    rfl
  · obtain ⟨a, v, rfl, ha, k⟩ := h
    refine ⟨_, (pss_one (ps_ost (pv 0) (pv 1))), ?_⟩
    have e0 : start ["self", "value"] [.ref a, v] = [some (.ref a), some v] := rfl
    rw [e0]
    simp only [cxK, wipe, tYes, List.map_cons, List.map_nil, rIxL, rSum, tSl, rSlL, tNoPart, tPart, exists_and_left, and_assoc, V.ref.injEq, HO.lst.injEq, HO.tup.injEq, tFor_eq, iRng1, iRng2, iList, iTup, tLc_eq, tLst, tTup, gSub, rSetL, gT, gL, gTup, gCons, gNil, atI_0, atI_1, atI_2, atI_3, List.length_cons, List.length_nil, Nat.zero_add, Nat.reduceAdd, Nat.reduceLeDiff, ixN_30, ixN_31, ixN_32, Int.reduceLT, Int.reduceLE, Int.reduceNeg, upd_same, reduceCtorEq, false_and, exists_false, or_false, false_or, tSeq, tNext, tIfS, tRet, tRetN, tDrop, tAsg, gName, tPar, tPar3, tAug, ipI, tVar, tC, tOp, tUn, tCB, tD, tDK, tCons, tNil, rI, rI0, rU, tB, tTest, tCallS, tErr, tAnd, tOr, tNot, tAndV, tOrV, tNotV, tIf, rEq, rNe, scal_ii, scal_bb, scal_ss, rGcd_eq, tBits, List.set_cons_zero, List.set_cons_succ, List.getElem?_cons_zero, List.getElem?_cons_succ, Option.some.injEq, exists_eq_left', V.int.injEq, V.bl.injEq, V.str.injEq, true_and, and_true, decide_eq_true_eq, List.cons.injEq, exists_eq_left, Bool.false_eq_true, if_false, if_true, ite_true, ite_false, Bool.not_eq_true', decide_eq_false_iff_not, Bool.not_not, tOst]
    exact ⟨C, T, nv, .inl ⟨ha, k⟩⟩
theorem bdiInvalidMeasure {f : Addr} {fd : FuncData} (F : FunD K "__init__" "InvalidMeasure.__init__" (defArgs s_iInvalidMeasure) (defBody s_iInvalidMeasure) (defScope s_iInvalidMeasure) [V.non] [] f fd) : Binds K fd ["self", "value"] [] ∧ (∃ ds, Vals [V.non] ds ∧ Binds K fd ["self", "value"] ds) ∧ ∀ (s : Shared) (u v : Value), K.In s.heap → BindsTo s fd ⟨[u], [("value", v)]⟩ [("self", u), ("value", v)] :=
  init_binds F (fun _ _ _ _ _ _ _ _ _ _ => ⟨_, rfl, rfl⟩) (fun _ _ _ _ _ _ _ _ _ => ⟨_, rfl, rfl⟩) (fun _ _ _ _ _ _ _ _ _ _ => ⟨_, rfl, rfl⟩)

abbrev s_iInvalidRoot : Stmt := initOf (top 5)

theorem sciInvalidRoot : FnScope ["self", "value"] ["self", "value"] (defScope s_iInvalidRoot) := ⟨rfl, rfl, rfl, by decide +kernel, rfl, by decide +kernel, by decide +kernel⟩

theorem okiInvalidRoot {f C : Addr} {fd : FuncData} (F : FunD K "__init__" "InvalidRoot.__init__" (defArgs s_iInvalidRoot) (defBody s_iInvalidRoot) (defScope s_iInvalidRoot) [V.non] [] f fd) (T : OexC K C) (nv : PySem.W.findIn K (.ref C) "value" = some none) : FnOk P w K mg base CX0 1 f fd ["self", "value"] (spInit C) := by
  refine F.ok (N := ["self", "value"]) sciInvalidRoot (fun vs H Q E h => ?_) (fun cdv A outer s H vs Q E hr h => ?_)
  · obtain ⟨a, v, rfl, _⟩ := h
    rfl
  · obtain ⟨a, v, rfl, ha, k⟩ := h
    refine ⟨_, (pss_one (ps_ost (pv 0) (pv 1))), ?_⟩
    have e0 : start ["self", "value"] [.ref a, v] = [some (.ref a), some v] := rfl
    rw [e0]
    simp only [cxK, wipe, tYes, List.map_cons, List.map_nil, rIxL, rSum, tSl, rSlL, tNoPart, tPart, exists_and_left, and_assoc, V.ref.injEq, HO.lst.injEq, HO.tup.injEq, tFor_eq, iRng1, iRng2, iList, iTup, tLc_eq, tLst, tTup, gSub, rSetL, gT, gL, gTup, gCons, gNil, atI_0, atI_1, atI_2, atI_3, List.length_cons, List.length_nil, Nat.zero_add, Nat.reduceAdd, Nat.reduceLeDiff, ixN_30, ixN_31, ixN_32, Int.reduceLT, Int.reduceLE, Int.reduceNeg, upd_same, reduceCtorEq, false_and, exists_false, or_false, false_or, tSeq, tNext, tIfS, tRet, tRetN, tDrop, tAsg, gName, tPar, tPar3, tAug, ipI, tVar, tC, tOp, tUn, tCB, tD, tDK, tCons, tNil, rI, rI0, rU, tB, tTest, tCallS, tErr, tAnd, tOr, tNot, tAndV, tOrV, tNotV, tIf, rEq, rNe, scal_ii, scal_bb, scal_ss, rGcd_eq, tBits, List.set_cons_zero, List.set_cons_succ, List.getElem?_cons_zero, List.getElem?_cons_succ, Option.some.injEq, exists_eq_left', V.int.injEq, V.bl.injEq, V.str.injEq, true_and, and_true, decide_eq_true_eq, List.cons.injEq, exists_eq_left, Bool.false_eq_true, if_false, if_true, ite_true, ite_false, Bool.not_eq_true', decide_eq_false_iff_not, Bool.not_not, tOst]
    exact ⟨C, T, nv, .inl ⟨ha, k⟩⟩
theorem bdiInvalidRoot {f : Addr} {fd : FuncData} (F : FunD K "__init__" "InvalidRoot.__init__" (defArgs s_iInvalidRoot) (defBody s_iInvalidRoot) (defScope s_iInvalidRoot) [V.non] [] f fd) : Binds K fd ["self", "value"] [] ∧ (∃ ds, Vals [V.non] ds ∧ Binds K fd ["self", "value"] ds) ∧ ∀ (s : Shared) (u v : Value), K.In s.heap → BindsTo s fd ⟨[u], [("value", v)]⟩ [("self", u), ("value", v)] :=
  init_binds F (fun _ _ _ _ _ _ _ _ _ _ => ⟨_, rfl, rfl⟩) (fun _ _ _ _ _ _ _ _ _ => ⟨_, rfl, rfl⟩) (fun _ _ _ _ _ _ _ _ _ _ => ⟨_, rfl, rfl⟩)

abbrev s_iInvalidNumber : Stmt := initOf (top 4)

theorem sciInvalidNumber : FnScope ["self", "value"] ["self", "value"] (defScope s_iInvalidNumber) := ⟨rfl, rfl, rfl, by decide +kernel, rfl, by decide +kernel, by decide +kernel⟩

theorem okiInvalidNumber {f C : Addr} {fd : FuncData} (F : FunD K "__init__" "InvalidNumber.__init__" (defArgs s_iInvalidNumber) (defBody s_iInvalidNumber) (defScope s_iInvalidNumber) [V.non] [] f fd) (T : OexC K C) (nv : PySem.W.findIn K (.ref C) "value" = some none) : FnOk P w K mg base CX0 1 f fd ["self", "value"] (spInit C) := by
  refine F.ok (N := ["self", "value"]) sciInvalidNumber (fun vs H Q E h => ?_) (fun cdv A outer s H vs Q E hr h => ?_)
  · obtain ⟨a, v, rfl, _⟩ := h
    rfl
  · obtain ⟨a, v, rfl, ha, k⟩ := h
    refine ⟨_, (pss_one (ps_ost (pv 0) (pv 1))), ?_⟩
    have e0 : start ["self", "value"] [.ref a, v] = [some (.ref a), some v] := rfl
    rw [e0]
    simp only [cxK, wipe, tYes, List.map_cons, List.map_nil, rIxL, rSum, tSl, rSlL, tNoPart, tPart, exists_and_left, and_assoc, V.ref.injEq, HO.lst.injEq, HO.tup.injEq, tFor_eq, iRng1, iRng2, iList, iTup, tLc_eq, tLst, tTup, gSub, rSetL, gT, gL, gTup, gCons, gNil, atI_0, atI_1, atI_2, atI_3, List.length_cons, List.length_nil, Nat.zero_add, Nat.reduceAdd, Nat.reduceLeDiff, ixN_30, ixN_31, ixN_32, Int.reduceLT, Int.reduceLE, Int.reduceNeg, upd_same, reduceCtorEq, false_and, exists_false, or_false, false_or, tSeq, tNext, tIfS, tRet, tRetN, tDrop, tAsg, gName, tPar, tPar3, tAug, ipI, tVar, tC, tOp, tUn, tCB, tD, tDK, tCons, tNil, rI, rI0, rU, tB, tTest, tCallS, tErr, tAnd, tOr, tNot, tAndV, tOrV, tNotV, tIf, rEq, rNe, scal_ii, scal_bb, scal_ss, rGcd_eq, tBits, List.set_cons_zero, List.set_cons_succ, List.getElem?_cons_zero, List.getElem?_cons_succ, Option.some.injEq, exists_eq_left', V.int.injEq, V.bl.injEq, V.str.injEq, true_and, and_true, decide_eq_true_eq, List.cons.injEq, exists_eq_left, Bool.false_eq_true, if_false, if_true, ite_true, ite_false, Bool.not_eq_true', decide_eq_false_iff_not, Bool.not_not, tOst]
    exact ⟨C, T, nv, .inl ⟨ha, k⟩⟩
theorem bdiInvalidNumber {f : Addr} {fd : FuncData} (F : FunD K "__init__" "InvalidNumber.__init__" (defArgs s_iInvalidNumber) (defBody s_iInvalidNumber) (defScope s_iInvalidNumber) [V.non] [] f fd) : Binds K fd ["self", "value"] [] ∧ (∃ ds, Vals [V.non] ds ∧ Binds K fd ["self", "value"] ds) ∧ ∀ (s : Shared) (u v : Value), K.In s.heap → BindsTo s fd ⟨[u], [("value", v)]⟩ [("self", u), ("value", v)] :=
  init_binds F (fun _ _ _ _ _ _ _ _ _ _ => ⟨_, rfl, rfl⟩) (fun _ _ _ _ _ _ _ _ _ => ⟨_, rfl, rfl⟩) (fun _ _ _ _ _ _ _ _ _ _ => ⟨_, rfl, rfl⟩)

theorem okIsWhole {f : Addr} {fd : FuncData} (F : Fun K "is_whole" "is_whole" s_IsWhole f fd) (T : Txt K mg) : FnOk P w K mg base CX0 1 f fd ["value"] (spWhole) := by
  refine F.ok scIsWhole (fun vs H Q E h => ?_) (fun cdv A outer s H vs Q E hr h => ?_)
  · obtain ⟨x, rfl, _⟩ := h
    rfl
  · obtain ⟨x, rfl, ⟨t, ht⟩, kk⟩ := h
    refine ⟨_, (pss_one (ps_ret (pe_and (pe_callB call_isi (by rfl) T.isinstance (by decide +kernel) (pa_cons (pv 0) (pa_cons (pe_bltn (v := .ty "int") (u := .type "int") (by rfl) T.int (by decide +kernel) rfl) pa_nil))) (pe_one (pe_not (pe_callB call_isi (by rfl) T.isinstance (by decide +kernel) (pa_cons (pv 0) (pa_cons (pe_bltn (v := .ty "bool") (u := .type "bool") (by rfl) T.bool (by decide +kernel) rfl) pa_nil)))))))), ?_⟩
    have e0 : start N_IsWhole [x] = [some x] := rfl
    rw [e0]
    obtain ⟨ty, hm, hi⟩ := tyS_of (K := K) ht
    simp only [cxK, wipe, tYes, List.map_cons, List.map_nil, rIxL, rSum, tSl, rSlL, tNoPart, tPart, exists_and_left, and_assoc, V.ref.injEq, HO.lst.injEq, HO.tup.injEq, tFor_eq, iRng1, iRng2, iList, iTup, tLc_eq, tLst, tTup, gSub, rSetL, gT, gL, gTup, gCons, gNil, atI_0, atI_1, atI_2, atI_3, List.length_cons, List.length_nil, Nat.zero_add, Nat.reduceAdd, Nat.reduceLeDiff, ixN_30, ixN_31, ixN_32, Int.reduceLT, Int.reduceLE, Int.reduceNeg, upd_same, reduceCtorEq, false_and, exists_false, or_false, false_or, tSeq, tNext, tIfS, tRet, tRetN, tDrop, tAsg, gName, tPar, tPar3, tAug, ipI, tVar, tC, tOp, tUn, tCB, tD, tDK, tCons, tNil, rI, rI0, rU, tB, tTest, tCallS, tErr, tAnd, tOr, tNot, tAndV, tOrV, tNotV, tIf, rEq, rNe, scal_ii, scal_bb, scal_ss, rGcd_eq, tBits, List.set_cons_zero, List.set_cons_succ, List.getElem?_cons_zero, List.getElem?_cons_succ, Option.some.injEq, exists_eq_left', V.int.injEq, V.bl.injEq, V.str.injEq, true_and, and_true, decide_eq_true_eq, List.cons.injEq, exists_eq_left, Bool.false_eq_true, if_false, if_true, ite_true, ite_false, Bool.not_eq_true', decide_eq_false_iff_not, Bool.not_not]
    simp only [List.mem_cons, List.not_mem_nil, or_false] at hm
    rw [hi] at kk
    rcases hm with rfl | rfl | rfl | rfl | rfl | rfl | rfl
    all_goals first
      | (refine rIsi_ty (b := true) ht (by decide +kernel) ?_; refine ⟨true, rfl, iteT ?_⟩; refine rIsi_ty (b := false) ht (by decide +kernel) ?_; exact ⟨false, rfl, kk⟩)
      | (refine rIsi_ty (b := true) ht (by decide +kernel) ?_; refine ⟨true, rfl, iteT ?_⟩; refine rIsi_ty (b := true) ht (by decide +kernel) ?_; exact ⟨true, rfl, kk⟩)
      | (refine rIsi_ty (b := false) ht (by decide +kernel) ?_; refine ⟨false, rfl, iteF kk⟩)

def InvWholes (H : Hp) (D : Addr) (xs : List V) : Nat → Hp → Prop := fun i H2 => Same H H2 ∧ H2 D = some (.lst ((xs.take i).map fun x => .bl (isIntV x)))

theorem okAreWholes {f : Addr} {fd : FuncData} (F : Fun K "are_wholes" "are_wholes" s_AreWholes f fd) (T : Txt K mg) {fIsWhole : Addr} {fdIsWhole : FuncData} (D_IsWhole : DefAt P w K mg base 1 "is_whole" fIsWhole fdIsWhole ["value"] (spWhole)) : FnOk P w K mg base CX0 2 f fd ["value", "many"] (spWholes) := by
  refine F.ok scAreWholes (fun vs H Q E h => ?_) (fun cdv A outer s H vs Q E hr h => ?_)
  · obtain ⟨x, m, rfl, _⟩ := h
    rfl
  · obtain ⟨x, m, rfl, hm, ⟨hO, hI⟩, kk⟩ := h
    refine ⟨_, (pss_cons (ps_if (PW.pt (pw_or (pt_not (pt_val (pe_callB call_isi (by rfl) T.isinstance (by decide +kernel) (pa_cons (pv 0) (pa_cons (pe_bltn (v := .ty "tuple") (u := .type "tuple") (by rfl) T.tuple (by decide +kernel) rfl) pa_nil))))) (pw_or1 (pt_cmpR op_ne (pe_callB lenT (by rfl) T.len (by decide +kernel) (pa_cons (pv 0) pa_nil)) (pv 1) (nomark _))))) (pss_one (ps_ret pe_bl)) pss_nil)
        (pss_one (ps_ret (pe_callB (cr_all rfl) (by rfl) T.all (by decide +kernel) (pa_cons (pe_lc (own := [("item", 2)]) (g := gName 2) (tt := tYes) rfl scAreWholes.nd (pi_tup (pv 0)) (blkOk_by (N := N_AreWholes) (sc := defScope s_AreWholes) (by decide +kernel)) (fun _ _ _ _ _ => pg_name (i := 2) scAreWholes.nd rfl (Or.inl rfl)) (fun _ _ _ _ _ => pts_nil) (fun _ _ _ _ _ => (pe_d D_IsWhole hr (pa_cons (pv 2) pa_nil)))) pa_nil))))), ?_⟩
    have e0 : start N_AreWholes [x, .int m] = [some x, some (.int m), none] := rfl
    rw [e0]
    simp only [cxK, wipe, tYes, List.map_cons, List.map_nil, rIxL, rSum, tSl, rSlL, tNoPart, tPart, exists_and_left, and_assoc, V.ref.injEq, HO.lst.injEq, HO.tup.injEq, tFor_eq, iRng1, iRng2, iList, iTup, tLc_eq, tLst, tTup, gSub, rSetL, gT, gL, gTup, gCons, gNil, atI_0, atI_1, atI_2, atI_3, List.length_cons, List.length_nil, Nat.zero_add, Nat.reduceAdd, Nat.reduceLeDiff, ixN_30, ixN_31, ixN_32, Int.reduceLT, Int.reduceLE, Int.reduceNeg, upd_same, reduceCtorEq, false_and, exists_false, or_false, false_or, tSeq, tNext, tIfS, tRet, tRetN, tDrop, tAsg, gName, tPar, tPar3, tAug, ipI, tVar, tC, tOp, tUn, tCB, tD, tDK, tCons, tNil, rI, rI0, rU, tB, tTest, tCallS, tErr, tAnd, tOr, tNot, tAndV, tOrV, tNotV, tIf, rEq, rNe, scal_ii, scal_bb, scal_ss, rGcd_eq, tBits, List.set_cons_zero, List.set_cons_succ, List.getElem?_cons_zero, List.getElem?_cons_succ, Option.some.injEq, exists_eq_left', V.int.injEq, V.bl.injEq, V.str.injEq, true_and, and_true, decide_eq_true_eq, List.cons.injEq, exists_eq_left, Bool.false_eq_true, if_false, if_true, ite_true, ite_false, Bool.not_eq_true', decide_eq_false_iff_not, Bool.not_not]
    rcases any_tuple K hO with ⟨t, ht, hb, hne⟩ | ⟨a, xs, rfl, ha⟩
    · refine rIsi_ty ht hb ⟨false, rfl, ?_⟩
      rw [if_pos rfl]
      rw [wholes_not ht hne] at kk
      exact kk _ (Same.refl _)
    · refine rIsi_ty (b := true) (tyS_tup ha) (by decide +kernel) ⟨true, rfl, ?_⟩
      rw [if_neg (by decide)]
      rw [wholes_tup ha] at kk
      simp only [cxK, wipe, tYes, List.map_cons, List.map_nil, rIxL, rSum, tSl, rSlL, tNoPart, tPart, exists_and_left, and_assoc, V.ref.injEq, HO.lst.injEq, HO.tup.injEq, tFor_eq, iRng1, iRng2, iList, iTup, tLc_eq, tLst, tTup, gSub, rSetL, gT, gL, gTup, gCons, gNil, atI_0, atI_1, atI_2, atI_3, List.length_cons, List.length_nil, Nat.zero_add, Nat.reduceAdd, Nat.reduceLeDiff, ixN_30, ixN_31, ixN_32, Int.reduceLT, Int.reduceLE, Int.reduceNeg, upd_same, reduceCtorEq, false_and, exists_false, or_false, false_or, tSeq, tNext, tIfS, tRet, tRetN, tDrop, tAsg, gName, tPar, tPar3, tAug, ipI, tVar, tC, tOp, tUn, tCB, tD, tDK, tCons, tNil, rI, rI0, rU, tB, tTest, tCallS, tErr, tAnd, tOr, tNot, tAndV, tOrV, tNotV, tIf, rEq, rNe, scal_ii, scal_bb, scal_ss, rGcd_eq, tBits, List.set_cons_zero, List.set_cons_succ, List.getElem?_cons_zero, List.getElem?_cons_succ, Option.some.injEq, exists_eq_left', V.int.injEq, V.bl.injEq, V.str.injEq, true_and, and_true, decide_eq_true_eq, List.cons.injEq, exists_eq_left, Bool.false_eq_true, if_false, if_true, ite_true, ite_false, Bool.not_eq_true', decide_eq_false_iff_not, Bool.not_not, ha]
      refine ite2 (fun hn => ?_) (fun hn => ?_)
      · rw [decide_eq_false hn, Bool.false_and] at kk
        exact kk _ (Same.refl _)
      · have hn2 := Decidable.not_not.mp hn
        rw [decide_eq_true hn2, Bool.true_and] at kk
        refine ⟨⟨_, SqT.of ha⟩, fun Dd nD => ?_⟩
        refine lcW_tup (xs := xs) (InvWholes H Dd xs) ⟨Same.upd nD, upd_same⟩ (fun i H2 _ z => SqT.of (z.1 _ _ ha)) ?_ ?_
        · rintro i x H2 hx ⟨s2, e2⟩
          refine ⟨rfl, ?_⟩
          have hmem : x ∈ xs := List.mem_of_getElem? hx
          simp only [cxK, wipe, tYes, List.map_cons, List.map_nil, rIxL, rSum, tSl, rSlL, tNoPart, tPart, exists_and_left, and_assoc, V.ref.injEq, HO.lst.injEq, HO.tup.injEq, tFor_eq, iRng1, iRng2, iList, iTup, tLc_eq, tLst, tTup, gSub, rSetL, gT, gL, gTup, gCons, gNil, atI_0, atI_1, atI_2, atI_3, List.length_cons, List.length_nil, Nat.zero_add, Nat.reduceAdd, Nat.reduceLeDiff, ixN_30, ixN_31, ixN_32, Int.reduceLT, Int.reduceLE, Int.reduceNeg, upd_same, reduceCtorEq, false_and, exists_false, or_false, false_or, tSeq, tNext, tIfS, tRet, tRetN, tDrop, tAsg, gName, tPar, tPar3, tAug, ipI, tVar, tC, tOp, tUn, tCB, tD, tDK, tCons, tNil, rI, rI0, rU, tB, tTest, tCallS, tErr, tAnd, tOr, tNot, tAndV, tOrV, tNotV, tIf, rEq, rNe, scal_ii, scal_bb, scal_ss, rGcd_eq, tBits, List.set_cons_zero, List.set_cons_succ, List.getElem?_cons_zero, List.getElem?_cons_succ, Option.some.injEq, exists_eq_left', V.int.injEq, V.bl.injEq, V.str.injEq, true_and, and_true, decide_eq_true_eq, List.cons.injEq, exists_eq_left, Bool.false_eq_true, if_false, if_true, ite_true, ite_false, Bool.not_eq_true', decide_eq_false_iff_not, Bool.not_not]
          refine ⟨x, rfl, (hI a xs rfl ha x hmem).same s2, ?_⟩
          refine ⟨_, e2, small1000 ?_, Same.upd2 s2 nD, ?_⟩
          · rw [List.length_map, List.length_take]
            omega
          · have e3 : xs.take (i + 1) = xs.take i ++ [x] := by rw [List.take_succ, hx]; rfl
            rw [upd_same, e3, List.map_append]
            rfl
        · rintro H2 ⟨s2, e2⟩
          refine ⟨Dd, xs.map isIntV, rfl, SqL.of ?_, ?_⟩
          · rw [e2, List.take_length, List.map_map]
            rfl
          · rw [List.all_map]
            exact kk _ s2

theorem okIsMeasure {f : Addr} {fd : FuncData} (F : Fun K "is_measure" "is_measure" s_IsMeasure f fd) (T : Txt K mg) {fIsWhole : Addr} {fdIsWhole : FuncData} (D_IsWhole : DefAt P w K mg base 1 "is_whole" fIsWhole fdIsWhole ["value"] (spWhole)) : FnOk P w K mg base CX0 2 f fd ["value"] (spIsMeasure) := by
  refine F.ok scIsMeasure (fun vs H Q E h => ?_) (fun cdv A outer s H vs Q E hr h => ?_)
  · obtain ⟨x, rfl, _⟩ := h
    rfl
  · obtain ⟨x, rfl, hO, kk⟩ := h
    refine ⟨_, (pss_one (ps_ret (pe_and (pe_d D_IsWhole hr (pa_cons (pv 0) pa_nil)) (pe_and (pe_cmpR op_ge (pv 0) pe_int (nomark _)) (pe_one (pe_cmpR op_lt (pe_op op_mod (pv 0) pe_int) pe_int (nomark _))))))), ?_⟩
    have e0 : start N_IsMeasure [x] = [some x] := rfl
    rw [e0]
    simp only [cxK, wipe, tYes, List.map_cons, List.map_nil, rIxL, rSum, tSl, rSlL, tNoPart, tPart, exists_and_left, and_assoc, V.ref.injEq, HO.lst.injEq, HO.tup.injEq, tFor_eq, iRng1, iRng2, iList, iTup, tLc_eq, tLst, tTup, gSub, rSetL, gT, gL, gTup, gCons, gNil, atI_0, atI_1, atI_2, atI_3, List.length_cons, List.length_nil, Nat.zero_add, Nat.reduceAdd, Nat.reduceLeDiff, ixN_30, ixN_31, ixN_32, Int.reduceLT, Int.reduceLE, Int.reduceNeg, upd_same, reduceCtorEq, false_and, exists_false, or_false, false_or, tSeq, tNext, tIfS, tRet, tRetN, tDrop, tAsg, gName, tPar, tPar3, tAug, ipI, tVar, tC, tOp, tUn, tCB, tD, tDK, tCons, tNil, rI, rI0, rU, tB, tTest, tCallS, tErr, tAnd, tOr, tNot, tAndV, tOrV, tNotV, tIf, rEq, rNe, scal_ii, scal_bb, scal_ss, rGcd_eq, tBits, List.set_cons_zero, List.set_cons_succ, List.getElem?_cons_zero, List.getElem?_cons_succ, Option.some.injEq, exists_eq_left', V.int.injEq, V.bl.injEq, V.str.injEq, true_and, and_true, decide_eq_true_eq, List.cons.injEq, exists_eq_left, Bool.false_eq_true, if_false, if_true, ite_true, ite_false, Bool.not_eq_true', decide_eq_false_iff_not, Bool.not_not]
    refine ⟨x, rfl, hO, isIntV x, rfl, ?_⟩
    cases x with
    | int i =>
      refine iteT ⟨i, rfl, ite2 (fun h5 => ⟨i, rfl, ?_⟩) (fun h5 => ?_)⟩
      · have e : measB (.int i) = decide (i % 4 < 2) := by rw [measB_int, decide_eq_true h5, Bool.true_and]
        rw [e] at kk
        exact kk
      · have e : measB (.int i) = false := by rw [measB_int, decide_eq_false h5, Bool.false_and]
        rw [e] at kk
        exact kk
    | _ => exact iteF kk

theorem okHasWholeRoot {f : Addr} {fd : FuncData} (F : Fun K "_has_whole_root" "_has_whole_root" s_HasWholeRoot f fd) (T : Txt K mg) : FnOk P w K mg base CX0 1 f fd ["measure"] (spHasRoot) := by
  refine F.ok scHasWholeRoot (fun vs H Q E h => ?_) (fun cdv A outer s H vs Q E hr h => ?_)
  · obtain ⟨D, rfl, _⟩ := h
    rfl
  · obtain ⟨D, rfl, h0, h1, kk⟩ := h
    refine ⟨_, (pss_cons (ps_set (i := 1) scHasWholeRoot.nd rfl (Or.inl rfl) (pe_callBfun cr_isqrt (by rfl) T.isqrt (pa_cons (pv 0) pa_nil)))
        (pss_one (ps_ret (pe_cmpR op_eq (pe_op op_mulU (pv 1) (pv 1)) (pv 0) (nomark _))))), ?_⟩
    have e0 : start N_HasWholeRoot [.int D] = [some (.int D), none] := rfl
    rw [e0]
    simp only [cxK, wipe, tYes, List.map_cons, List.map_nil, rIxL, rSum, tSl, rSlL, tNoPart, tPart, exists_and_left, and_assoc, V.ref.injEq, HO.lst.injEq, HO.tup.injEq, tFor_eq, iRng1, iRng2, iList, iTup, tLc_eq, tLst, tTup, gSub, rSetL, gT, gL, gTup, gCons, gNil, atI_0, atI_1, atI_2, atI_3, List.length_cons, List.length_nil, Nat.zero_add, Nat.reduceAdd, Nat.reduceLeDiff, ixN_30, ixN_31, ixN_32, Int.reduceLT, Int.reduceLE, Int.reduceNeg, upd_same, reduceCtorEq, false_and, exists_false, or_false, false_or, tSeq, tNext, tIfS, tRet, tRetN, tDrop, tAsg, gName, tPar, tPar3, tAug, ipI, tVar, tC, tOp, tUn, tCB, tD, tDK, tCons, tNil, rI, rI0, rU, tB, tTest, tCallS, tErr, tAnd, tOr, tNot, tAndV, tOrV, tNotV, tIf, rEq, rNe, scal_ii, scal_bb, scal_ss, rGcd_eq, tBits, List.set_cons_zero, List.set_cons_succ, List.getElem?_cons_zero, List.getElem?_cons_succ, Option.some.injEq, exists_eq_left', V.int.injEq, V.bl.injEq, V.str.injEq, true_and, and_true, decide_eq_true_eq, List.cons.injEq, exists_eq_left, Bool.false_eq_true, if_false, if_true, ite_true, ite_false, Bool.not_eq_true', decide_eq_false_iff_not, Bool.not_not]
    have e : decide (rt D * rt D = D) = decide (Sq D) := by simp only [Sq]
    obtain ⟨s0, s1, s2⟩ := rt_spec h0
    have hle : rt D ≤ D := by
      by_cases h : rt D ≤ 0
      · omega
      · have := Int.mul_le_mul_of_nonneg_right (show 1 ≤ rt D by omega) s0
        omega
    refine ⟨h0, lg (by omega), cmw (by omega) (by omega) (by omega) (by omega), ?_⟩
    rw [e]
    exact kk

theorem okIsRootOf {f : Addr} {fd : FuncData} (F : Fun K "_is_root_of" "_is_root_of" s_IsRootOf f fd) (T : Txt K mg) {fAreWholes : Addr} {fdAreWholes : FuncData} (D_AreWholes : DefAt P w K mg base 2 "are_wholes" fAreWholes fdAreWholes ["value", "many"] (spWholes)) {fHasWholeRoot : Addr} {fdHasWholeRoot : FuncData} (D_HasWholeRoot : DefAt P w K mg base 1 "_has_whole_root" fHasWholeRoot fdHasWholeRoot ["measure"] (spHasRoot)) : FnOk P w K mg base CX0 3 f fd ["measure", "value"] (spIsRootOf) := by
  refine F.ok scIsRootOf (fun vs H Q E h => ?_) (fun cdv A outer s H vs Q E hr h => ?_)
  · obtain ⟨D, x, rfl, _⟩ := h
    rfl
  · obtain ⟨D, x, rfl, h0, h1, hV, kk⟩ := h
    refine ⟨_, (pss_cons (ps_if (pt_not (pt_val (pe_d D_AreWholes hr (pa_cons (pv 1) (pa_cons pe_int pa_nil))))) (pss_one (ps_ret pe_bl)) pss_nil)
        (pss_cons (ps_asg (pv 1) (pg_tupT 3 rfl (pgs_cons (pg_name (i := 2) scIsRootOf.nd rfl (Or.inl rfl)) (pgs_cons (pg_name (i := 3) scIsRootOf.nd rfl (Or.inl rfl)) (pgs_cons (pg_name (i := 4) scIsRootOf.nd rfl (Or.inl rfl)) pgs_nil)))))
        (pss_cons (ps_if (PW.pt (pw_or (pt_cmpR op_lt (pv 4) pe_int (nomark _)) (pw_or1 (pt_cmpR op_gt (pe_callBfun cr_gcd (by rfl) T.gcd (pa_cons (pe_callBfun cr_gcd (by rfl) T.gcd (pa_cons (pv 2) (pa_cons (pv 3) pa_nil))) (pa_cons (pv 4) pa_nil))) pe_int (nomark _))))) (pss_one (ps_ret pe_bl)) pss_nil)
        (pss_one (ps_ret (pe_or (pe_cmpR op_eq (pv 3) pe_int (nomark _)) (pe_one (pe_not (pe_d D_HasWholeRoot hr (pa_cons (pv 0) pa_nil)))))))))), ?_⟩
    have e0 : start N_IsRootOf [.int D, x] = [some (.int D), some x, none, none, none] := rfl
    rw [e0]
    simp only [cxK, wipe, tYes, List.map_cons, List.map_nil, rIxL, rSum, tSl, rSlL, tNoPart, tPart, exists_and_left, and_assoc, V.ref.injEq, HO.lst.injEq, HO.tup.injEq, tFor_eq, iRng1, iRng2, iList, iTup, tLc_eq, tLst, tTup, gSub, rSetL, gT, gL, gTup, gCons, gNil, atI_0, atI_1, atI_2, atI_3, List.length_cons, List.length_nil, Nat.zero_add, Nat.reduceAdd, Nat.reduceLeDiff, ixN_30, ixN_31, ixN_32, Int.reduceLT, Int.reduceLE, Int.reduceNeg, upd_same, reduceCtorEq, false_and, exists_false, or_false, false_or, tSeq, tNext, tIfS, tRet, tRetN, tDrop, tAsg, gName, tPar, tPar3, tAug, ipI, tVar, tC, tOp, tUn, tCB, tD, tDK, tCons, tNil, rI, rI0, rU, tB, tTest, tCallS, tErr, tAnd, tOr, tNot, tAndV, tOrV, tNotV, tIf, rEq, rNe, scal_ii, scal_bb, scal_ss, rGcd_eq, tBits, List.set_cons_zero, List.set_cons_succ, List.getElem?_cons_zero, List.getElem?_cons_succ, Option.some.injEq, exists_eq_left', V.int.injEq, V.bl.injEq, V.str.injEq, true_and, and_true, decide_eq_true_eq, List.cons.injEq, exists_eq_left, Bool.false_eq_true, if_false, if_true, ite_true, ite_false, Bool.not_eq_true', decide_eq_false_iff_not, Bool.not_not]
    refine ⟨x, 3, rfl, by decide, hV, fun H1 s1 => ⟨_, rfl, ?_⟩⟩
    cases hw : wholesB H 3 x with
    | false =>
      rw [if_pos rfl]
      rw [rootB_not hw] at kk
      exact kk _ s1
    | true =>
      rw [if_neg (by decide)]
      obtain ⟨a, i, j, l, rfl, ha⟩ := wholes3 hw
      rw [rootB3 ha] at kk
      have e1 := s1 _ _ ha
      simp only [cxK, wipe, tYes, List.map_cons, List.map_nil, rIxL, rSum, tSl, rSlL, tNoPart, tPart, exists_and_left, and_assoc, V.ref.injEq, HO.lst.injEq, HO.tup.injEq, tFor_eq, iRng1, iRng2, iList, iTup, tLc_eq, tLst, tTup, gSub, rSetL, gT, gL, gTup, gCons, gNil, atI_0, atI_1, atI_2, atI_3, List.length_cons, List.length_nil, Nat.zero_add, Nat.reduceAdd, Nat.reduceLeDiff, ixN_30, ixN_31, ixN_32, Int.reduceLT, Int.reduceLE, Int.reduceNeg, upd_same, reduceCtorEq, false_and, exists_false, or_false, false_or, tSeq, tNext, tIfS, tRet, tRetN, tDrop, tAsg, gName, tPar, tPar3, tAug, ipI, tVar, tC, tOp, tUn, tCB, tD, tDK, tCons, tNil, rI, rI0, rU, tB, tTest, tCallS, tErr, tAnd, tOr, tNot, tAndV, tOrV, tNotV, tIf, rEq, rNe, scal_ii, scal_bb, scal_ss, rGcd_eq, tBits, List.set_cons_zero, List.set_cons_succ, List.getElem?_cons_zero, List.getElem?_cons_succ, Option.some.injEq, exists_eq_left', V.int.injEq, V.bl.injEq, V.str.injEq, true_and, and_true, decide_eq_true_eq, List.cons.injEq, exists_eq_left, Bool.false_eq_true, if_false, if_true, ite_true, ite_false, Bool.not_eq_true', decide_eq_false_iff_not, Bool.not_not, e1]
      refine ite2 (fun hl => ?_) (fun hl => ?_)
      · rw [decide_eq_false (show ¬ 1 ≤ l by omega), Bool.false_and] at kk
        exact kk _ s1
      · rw [decide_eq_true (show 1 ≤ l by omega), Bool.true_and] at kk
        refine ite2 (fun hg => ?_) (fun hg => ?_)
        · rw [decide_eq_false (show ¬ gcdI (gcdI i j) l ≤ 1 by omega), Bool.false_and] at kk
          exact kk _ s1
        · rw [decide_eq_true (show gcdI (gcdI i j) l ≤ 1 by omega), Bool.true_and] at kk
          refine ite2 (fun hj => ?_) (fun hj => ?_)
          · rw [decide_eq_true hj, Bool.true_or] at kk
            exact kk _ s1
          · rw [decide_eq_false hj, Bool.false_or] at kk
            exact ⟨D, rfl, h0, h1, _, rfl, kk _ s1⟩

theorem okSide {f : Addr} {fd : FuncData} (F : Fun K "_side" "_side" s_Side f fd) (T : Txt K mg) : FnOk P w K mg base CX0 1 f fd ["number"] (spSgn) := by
  refine F.ok scSide (fun vs H Q E h => ?_) (fun cdv A outer s H vs Q E hr h => ?_)
  · obtain ⟨x, rfl, _⟩ := h
    rfl
  · obtain ⟨x, rfl, kk⟩ := h
    refine ⟨_, (pss_cons (ps_if (pt_cmpR op_eq (pv 0) pe_int (nomark _)) (pss_one (ps_ret pe_int)) pss_nil)
        (pss_one (ps_ret (pe_ifExp (pt_cmpR op_gt (pv 0) pe_int (nomark _)) pe_int (pe_un un_neg pe_int))))), ?_⟩
    have e0 : start N_Side [.int x] = [some (.int x)] := rfl
    rw [e0]
    simp only [cxK, wipe, tYes, List.map_cons, List.map_nil, rIxL, rSum, tSl, rSlL, tNoPart, tPart, exists_and_left, and_assoc, V.ref.injEq, HO.lst.injEq, HO.tup.injEq, tFor_eq, iRng1, iRng2, iList, iTup, tLc_eq, tLst, tTup, gSub, rSetL, gT, gL, gTup, gCons, gNil, atI_0, atI_1, atI_2, atI_3, List.length_cons, List.length_nil, Nat.zero_add, Nat.reduceAdd, Nat.reduceLeDiff, ixN_30, ixN_31, ixN_32, Int.reduceLT, Int.reduceLE, Int.reduceNeg, upd_same, reduceCtorEq, false_and, exists_false, or_false, false_or, tSeq, tNext, tIfS, tRet, tRetN, tDrop, tAsg, gName, tPar, tPar3, tAug, ipI, tVar, tC, tOp, tUn, tCB, tD, tDK, tCons, tNil, rI, rI0, rU, tB, tTest, tCallS, tErr, tAnd, tOr, tNot, tAndV, tOrV, tNotV, tIf, rEq, rNe, scal_ii, scal_bb, scal_ss, rGcd_eq, tBits, List.set_cons_zero, List.set_cons_succ, List.getElem?_cons_zero, List.getElem?_cons_succ, Option.some.injEq, exists_eq_left', V.int.injEq, V.bl.injEq, V.str.injEq, true_and, and_true, decide_eq_true_eq, List.cons.injEq, exists_eq_left, Bool.false_eq_true, if_false, if_true, ite_true, ite_false, Bool.not_eq_true', decide_eq_false_iff_not, Bool.not_not]
    unfold sgn at kk
    by_cases h0 : x = 0
    · rw [if_pos h0] at kk ⊢
      exact kk
    · rw [if_neg h0] at kk ⊢
      by_cases h1 : 0 < x
      · rw [if_pos h1] at kk ⊢
        exact kk
      · rw [if_neg h1] at kk ⊢
        exact kk

theorem okFloorOfMultiple {f : Addr} {fd : FuncData} (F : Fun K "_floor_of_multiple" "_floor_of_multiple" s_FloorOfMultiple f fd) (T : Txt K mg) : FnOk P w K mg base CX0 1 f fd ["measure", "times"] (spFlM) := by
  refine F.ok scFloorOfMultiple (fun vs H Q E h => ?_) (fun cdv A outer s H vs Q E hr h => ?_)
  · obtain ⟨D, y, rfl, _⟩ := h
    rfl
  · obtain ⟨D, y, rfl, h0, h1, h2, h3, kk⟩ := h
    refine ⟨_, (pss_cons (ps_set (i := 2) scFloorOfMultiple.nd rfl (Or.inl rfl) (pe_op op_mulU (pe_op op_mulU (pv 0) (pv 1)) (pv 1)))
        (pss_cons (ps_if (pt_cmpR op_ge (pv 1) pe_int (nomark _)) (pss_one (ps_ret (pe_callBfun cr_isqrt (by rfl) T.isqrt (pa_cons (pv 2) pa_nil)))) pss_nil)
        (pss_one (ps_ret (pe_op op_sub (pe_un un_neg (pe_callBfun cr_isqrt (by rfl) T.isqrt (pa_cons (pe_op op_sub (pv 2) pe_int) pa_nil))) pe_int))))), ?_⟩
    have e0 : start N_FloorOfMultiple [.int D, .int y] = [some (.int D), some (.int y), none] := rfl
    rw [e0]
    simp only [cxK, wipe, tYes, List.map_cons, List.map_nil, rIxL, rSum, tSl, rSlL, tNoPart, tPart, exists_and_left, and_assoc, V.ref.injEq, HO.lst.injEq, HO.tup.injEq, tFor_eq, iRng1, iRng2, iList, iTup, tLc_eq, tLst, tTup, gSub, rSetL, gT, gL, gTup, gCons, gNil, atI_0, atI_1, atI_2, atI_3, List.length_cons, List.length_nil, Nat.zero_add, Nat.reduceAdd, Nat.reduceLeDiff, ixN_30, ixN_31, ixN_32, Int.reduceLT, Int.reduceLE, Int.reduceNeg, upd_same, reduceCtorEq, false_and, exists_false, or_false, false_or, tSeq, tNext, tIfS, tRet, tRetN, tDrop, tAsg, gName, tPar, tPar3, tAug, ipI, tVar, tC, tOp, tUn, tCB, tD, tDK, tCons, tNil, rI, rI0, rU, tB, tTest, tCallS, tErr, tAnd, tOr, tNot, tAndV, tOrV, tNotV, tIf, rEq, rNe, scal_ii, scal_bb, scal_ss, rGcd_eq, tBits, List.set_cons_zero, List.set_cons_succ, List.getElem?_cons_zero, List.getElem?_cons_succ, Option.some.injEq, exists_eq_left', V.int.injEq, V.bl.injEq, V.str.injEq, true_and, and_true, decide_eq_true_eq, List.cons.injEq, exists_eq_left, Bool.false_eq_true, if_false, if_true, ite_true, ite_false, Bool.not_eq_true', decide_eq_false_iff_not, Bool.not_not]
    have w1 : (D * y).natAbs < 2 ^ (1000 + 1000) := wide_lt (by omega) (by omega)
    have w2 : (D * y * y).natAbs < 2 ^ (1000 + 1000 + 1000) := wide_lt w1 (by omega)
    simp only [Nat.reduceAdd] at w1 w2
    unfold flM at kk
    refine ⟨cmw (by omega) (by omega) (by omega) (by omega), cmw (by omega) (by omega) (by omega) (by omega), ite2 (fun hy => ?_) (fun hy => ?_)⟩
    · rw [if_pos hy] at kk
      exact ⟨dyy_nn (by omega), lg (by omega), kk⟩
    · rw [if_neg hy] at kk
      have := dyy_pos h0 (show y ≠ 0 by omega)
      exact ⟨by omega, lg (by omega), kk⟩

theorem okReduced {f : Addr} {fd : FuncData} (F : Fun K "_reduced" "_reduced" s_Reduced f fd) (T : Txt K mg) {fHasWholeRoot : Addr} {fdHasWholeRoot : FuncData} (D_HasWholeRoot : DefAt P w K mg base 1 "_has_whole_root" fHasWholeRoot fdHasWholeRoot ["measure"] (spHasRoot)) : FnOk P w K mg base CX0 2 f fd ["measure", "x", "y", "below"] (spReduced) := by
  refine F.ok scReduced (fun vs H Q E h => ?_) (fun cdv A outer s H vs Q E hr h => ?_)
  · obtain ⟨D, x, y, b, rfl, _⟩ := h
    rfl
  · obtain ⟨D, x, y, b, rfl, h0, h1, hx, hy, hb, hb0, kk⟩ := h
    refine ⟨_, (pss_cons (ps_if (pt_val (pe_d D_HasWholeRoot hr (pa_cons (pv 0) pa_nil))) (pss_cons (ps_aug (i := 1) scReduced.nd rfl (Or.inl rfl) (pe_op op_mulU (pv 2) (pe_callBfun cr_isqrt (by rfl) T.isqrt (pa_cons (pv 0) pa_nil))) ip_add)
        (pss_one (ps_set (i := 2) scReduced.nd rfl (Or.inl rfl) pe_int))) pss_nil)
        (pss_cons (ps_set (i := 4) scReduced.nd rfl (Or.inl rfl) (pe_callBfun cr_gcd (by rfl) T.gcd (pa_cons (pe_callBfun cr_gcd (by rfl) T.gcd (pa_cons (pv 1) (pa_cons (pv 2) pa_nil))) (pa_cons (pv 3) pa_nil))))
        (pss_cons (ps_if (pt_cmpR op_lt (pv 3) pe_int (nomark _)) (pss_one (ps_set (i := 4) scReduced.nd rfl (Or.inl rfl) (pe_un un_neg (pv 4)))) pss_nil)
        (pss_one (ps_ret (pe_tup (pa_cons (pe_op op_fdivX (pv 1) (pv 4)) (pa_cons (pe_op op_fdivX (pv 2) (pv 4)) (pa_cons (pe_op op_fdivX (pv 3) (pv 4)) pa_nil))))))))), ?_⟩
    have e0 : start N_Reduced [.int D, .int x, .int y, .int b] = [some (.int D), some (.int x), some (.int y), some (.int b), none] := rfl
    rw [e0]
    simp only [cxK, wipe, tYes, List.map_cons, List.map_nil, rIxL, rSum, tSl, rSlL, tNoPart, tPart, exists_and_left, and_assoc, V.ref.injEq, HO.lst.injEq, HO.tup.injEq, tFor_eq, iRng1, iRng2, iList, iTup, tLc_eq, tLst, tTup, gSub, rSetL, gT, gL, gTup, gCons, gNil, atI_0, atI_1, atI_2, atI_3, List.length_cons, List.length_nil, Nat.zero_add, Nat.reduceAdd, Nat.reduceLeDiff, ixN_30, ixN_31, ixN_32, Int.reduceLT, Int.reduceLE, Int.reduceNeg, upd_same, reduceCtorEq, false_and, exists_false, or_false, false_or, tSeq, tNext, tIfS, tRet, tRetN, tDrop, tAsg, gName, tPar, tPar3, tAug, ipI, tVar, tC, tOp, tUn, tCB, tD, tDK, tCons, tNil, rI, rI0, rU, tB, tTest, tCallS, tErr, tAnd, tOr, tNot, tAndV, tOrV, tNotV, tIf, rEq, rNe, scal_ii, scal_bb, scal_ss, rGcd_eq, tBits, List.set_cons_zero, List.set_cons_succ, List.getElem?_cons_zero, List.getElem?_cons_succ, Option.some.injEq, exists_eq_left', V.int.injEq, V.bl.injEq, V.str.injEq, true_and, and_true, decide_eq_true_eq, List.cons.injEq, exists_eq_left, Bool.false_eq_true, if_false, if_true, ite_true, ite_false, Bool.not_eq_true', decide_eq_false_iff_not, Bool.not_not]
    refine ⟨D, rfl, h0, by omega, _, rfl, ?_⟩
    obtain ⟨s0, s1', s2⟩ := rt_spec h0
    have hle : rt D ≤ D := by
      by_cases h : rt D ≤ 0
      · omega
      · have := Int.mul_le_mul_of_nonneg_right (show 1 ≤ rt D by omega) s0
        omega
    by_cases hs : rt D * rt D = D
    · rw [if_pos (show decide (Sq D) = true from decide_eq_true hs)]
      refine ⟨h0, lg (by omega), cmw (by omega) (by omega) (by omega) (by omega), ?_⟩
      have hred : red (x + y * rt D) 0 b = least D x y b := by unfold least; rw [if_pos hs]
      have hl0 := lsg_ne (x := x + y * rt D) (y := 0) hb0
      have hl1 := lsg_size (x := x + y * rt D) (y := 0) hb0
      have dv : DivOk (lsg (x + y * rt D) (0) b) := cdiv hl0 (by omega) (by omega)
      refine ite2 (fun hn => ?_) (fun hn => ?_)
      · have e : -gcdI (gcdI (x + y * rt D) (0)) b = lsg (x + y * rt D) (0) b := by unfold lsg; rw [if_pos hn, Int.zero_sub]
        rw [e]
        refine ⟨dv, dv, dv, by decide, fun p np => kk p _ np (Same.upd np) ?_⟩
        rw [upd_same, ← hred]
        rfl
      · have e : gcdI (gcdI (x + y * rt D) (0)) b = lsg (x + y * rt D) (0) b := by unfold lsg; rw [if_neg hn]
        rw [e]
        refine ⟨dv, dv, dv, by decide, fun p np => kk p _ np (Same.upd np) ?_⟩
        rw [upd_same, ← hred]
        rfl
    · rw [if_neg (show ¬ decide (Sq D) = true from by rw [decide_eq_true_eq]; exact hs)]
      have hred : red x y b = least D x y b := by unfold least; rw [if_neg hs]
      have hl0 := lsg_ne (x := x) (y := y) hb0
      have hl1 := lsg_size (x := x) (y := y) hb0
      have dv : DivOk (lsg (x) (y) b) := cdiv hl0 (by omega) (by omega)
      refine ite2 (fun hn => ?_) (fun hn => ?_)
      · have e : -gcdI (gcdI (x) (y)) b = lsg (x) (y) b := by unfold lsg; rw [if_pos hn, Int.zero_sub]
        rw [e]
        refine ⟨dv, dv, dv, by decide, fun p np => kk p _ np (Same.upd np) ?_⟩
        rw [upd_same, ← hred]
        rfl
      · have e : gcdI (gcdI (x) (y)) b = lsg (x) (y) b := by unfold lsg; rw [if_neg hn]
        rw [e]
        refine ⟨dv, dv, dv, by decide, fun p np => kk p _ np (Same.upd np) ?_⟩
        rw [upd_same, ← hred]
        rfl

theorem okTotal {f : Addr} {fd : FuncData} (F : Fun K "_total" "_total" s_Total f fd) (T : Txt K mg) {fReduced : Addr} {fdReduced : FuncData} (D_Reduced : DefAt P w K mg base 2 "_reduced" fReduced fdReduced ["measure", "x", "y", "below"] (spReduced)) : FnOk P w K mg base CX0 3 f fd ["measure", "one", "other", "times"] (spTotal) := by
  refine F.ok scTotal (fun vs H Q E h => ?_) (fun cdv A outer s H vs Q E hr h => ?_)
  · obtain ⟨D, s, a, b, t, u, n, m, rfl, _⟩ := h
    rfl
  · obtain ⟨D, s, a, b, t, u, n, m, rfl, hs, T2, hnm, kk⟩ := h
    refine ⟨_, (pss_cons (ps_asg (pv 1) (pg_tupT 3 rfl (pgs_cons (pg_name (i := 4) scTotal.nd rfl (Or.inl rfl)) (pgs_cons (pg_name (i := 5) scTotal.nd rfl (Or.inl rfl)) (pgs_cons (pg_name (i := 6) scTotal.nd rfl (Or.inl rfl)) pgs_nil)))))
        (pss_cons (ps_asg (pv 2) (pg_tupT 3 rfl (pgs_cons (pg_name (i := 7) scTotal.nd rfl (Or.inl rfl)) (pgs_cons (pg_name (i := 8) scTotal.nd rfl (Or.inl rfl)) (pgs_cons (pg_name (i := 9) scTotal.nd rfl (Or.inl rfl)) pgs_nil)))))
        (pss_cons (ps_set (i := 10) scTotal.nd rfl (Or.inl rfl) (pe_op op_add (pe_op op_mulU (pv 4) (pv 9)) (pe_op op_mulU (pe_op op_mulU (pv 3) (pv 7)) (pv 6))))
        (pss_cons (ps_set (i := 11) scTotal.nd rfl (Or.inl rfl) (pe_op op_add (pe_op op_mulU (pv 5) (pv 9)) (pe_op op_mulU (pe_op op_mulU (pv 3) (pv 8)) (pv 6))))
        (pss_one (ps_ret (pe_d D_Reduced hr (pa_cons (pv 0) (pa_cons (pv 10) (pa_cons (pv 11) (pa_cons (pe_op op_mulU (pv 6) (pv 9)) pa_nil))))))))))), ?_⟩
    have e0 : start N_Total [.int D, .ref a, .ref b, .int s] = [some (.int D), some (.ref a), some (.ref b), some (.int s), none, none, none, none, none, none, none, none] := rfl
    rw [e0]
    have e1 : H a = some (.tup [.int t.1, .int t.2.1, .int t.2.2]) := T2.ra.1
    have e2 : H b = some (.tup [.int u.1, .int u.2.1, .int u.2.2]) := T2.rb.1
    obtain ⟨d0, d1⟩ := T2.dn
    have d2 := T2.lt
    obtain ⟨z1, z2, z3⟩ := T2.za
    obtain ⟨y1, y2, y3⟩ := T2.zb
    simp only [cxK, wipe, tYes, List.map_cons, List.map_nil, rIxL, rSum, tSl, rSlL, tNoPart, tPart, exists_and_left, and_assoc, V.ref.injEq, HO.lst.injEq, HO.tup.injEq, tFor_eq, iRng1, iRng2, iList, iTup, tLc_eq, tLst, tTup, gSub, rSetL, gT, gL, gTup, gCons, gNil, atI_0, atI_1, atI_2, atI_3, List.length_cons, List.length_nil, Nat.zero_add, Nat.reduceAdd, Nat.reduceLeDiff, ixN_30, ixN_31, ixN_32, Int.reduceLT, Int.reduceLE, Int.reduceNeg, upd_same, reduceCtorEq, false_and, exists_false, or_false, false_or, tSeq, tNext, tIfS, tRet, tRetN, tDrop, tAsg, gName, tPar, tPar3, tAug, ipI, tVar, tC, tOp, tUn, tCB, tD, tDK, tCons, tNil, rI, rI0, rU, tB, tTest, tCallS, tErr, tAnd, tOr, tNot, tAndV, tOrV, tNotV, tIf, rEq, rNe, scal_ii, scal_bb, scal_ss, rGcd_eq, tBits, List.set_cons_zero, List.set_cons_succ, List.getElem?_cons_zero, List.getElem?_cons_succ, Option.some.injEq, exists_eq_left', V.int.injEq, V.bl.injEq, V.str.injEq, true_and, and_true, decide_eq_true_eq, List.cons.injEq, exists_eq_left, Bool.false_eq_true, if_false, if_true, ite_true, ite_false, Bool.not_eq_true', decide_eq_false_iff_not, Bool.not_not, e1, e2]
    refine ⟨okm z1 y3 (by omega) (by omega), okm (n := 1) (by rcases hs with rfl | rfl <;> decide) y1 (by decide) (by omega), okm (one_mul_sz hs y1) z3 (by omega) (by omega), okm z2 y3 (by omega) (by omega), okm (n := 1) (by rcases hs with rfl | rfl <;> decide) y2 (by decide) (by omega), okm (one_mul_sz hs y2) z3 (by omega) (by omega), okm z3 y3 (by omega) (by omega), ?_⟩
    have nb := mul_ne (below_ne T2.ra.2) (below_ne T2.rb.2)
    exact ⟨D, _, _, _, rfl, d0, by omega, up (sz_add (wide_lt z1 y3) (by rw [Nat.add_comm n m]; exact wide_lt (one_mul_sz hs y1) z3)) (by omega), up (sz_add (wide_lt z2 y3) (by rw [Nat.add_comm n m]; exact wide_lt (one_mul_sz hs y2) z3)) (by omega), up (wide_lt z3 y3) (by omega), nb, fun p H1 np s1 e => kk p H1 np s1 ⟨e, least_good nb⟩⟩

theorem okMultiplied {f : Addr} {fd : FuncData} (F : Fun K "_multiplied" "_multiplied" s_Multiplied f fd) (T : Txt K mg) {fReduced : Addr} {fdReduced : FuncData} (D_Reduced : DefAt P w K mg base 2 "_reduced" fReduced fdReduced ["measure", "x", "y", "below"] (spReduced)) : FnOk P w K mg base CX0 3 f fd ["measure", "one", "other"] (spTimes) := by
  refine F.ok scMultiplied (fun vs H Q E h => ?_) (fun cdv A outer s H vs Q E hr h => ?_)
  · obtain ⟨D, a, b, t, u, n, m, rfl, _⟩ := h
    rfl
  · obtain ⟨D, a, b, t, u, n, m, rfl, T2, hnm, kk⟩ := h
    refine ⟨_, (pss_cons (ps_asg (pv 1) (pg_tupT 3 rfl (pgs_cons (pg_name (i := 3) scMultiplied.nd rfl (Or.inl rfl)) (pgs_cons (pg_name (i := 4) scMultiplied.nd rfl (Or.inl rfl)) (pgs_cons (pg_name (i := 5) scMultiplied.nd rfl (Or.inl rfl)) pgs_nil)))))
        (pss_cons (ps_asg (pv 2) (pg_tupT 3 rfl (pgs_cons (pg_name (i := 6) scMultiplied.nd rfl (Or.inl rfl)) (pgs_cons (pg_name (i := 7) scMultiplied.nd rfl (Or.inl rfl)) (pgs_cons (pg_name (i := 8) scMultiplied.nd rfl (Or.inl rfl)) pgs_nil)))))
        (pss_cons (ps_set (i := 9) scMultiplied.nd rfl (Or.inl rfl) (pe_op op_add (pe_op op_mulU (pv 3) (pv 6)) (pe_op op_mulU (pe_op op_mulU (pv 0) (pv 4)) (pv 7))))
        (pss_cons (ps_set (i := 10) scMultiplied.nd rfl (Or.inl rfl) (pe_op op_add (pe_op op_mulU (pv 3) (pv 7)) (pe_op op_mulU (pv 4) (pv 6))))
        (pss_one (ps_ret (pe_d D_Reduced hr (pa_cons (pv 0) (pa_cons (pv 9) (pa_cons (pv 10) (pa_cons (pe_op op_mulU (pv 5) (pv 8)) pa_nil))))))))))), ?_⟩
    have e0 : start N_Multiplied [.int D, .ref a, .ref b] = [some (.int D), some (.ref a), some (.ref b), none, none, none, none, none, none, none, none] := rfl
    rw [e0]
    have e1 : H a = some (.tup [.int t.1, .int t.2.1, .int t.2.2]) := T2.ra.1
    have e2 : H b = some (.tup [.int u.1, .int u.2.1, .int u.2.2]) := T2.rb.1
    obtain ⟨d0, d1⟩ := T2.dn
    have d2 := T2.lt
    obtain ⟨z1, z2, z3⟩ := T2.za
    obtain ⟨y1, y2, y3⟩ := T2.zb
    simp only [cxK, wipe, tYes, List.map_cons, List.map_nil, rIxL, rSum, tSl, rSlL, tNoPart, tPart, exists_and_left, and_assoc, V.ref.injEq, HO.lst.injEq, HO.tup.injEq, tFor_eq, iRng1, iRng2, iList, iTup, tLc_eq, tLst, tTup, gSub, rSetL, gT, gL, gTup, gCons, gNil, atI_0, atI_1, atI_2, atI_3, List.length_cons, List.length_nil, Nat.zero_add, Nat.reduceAdd, Nat.reduceLeDiff, ixN_30, ixN_31, ixN_32, Int.reduceLT, Int.reduceLE, Int.reduceNeg, upd_same, reduceCtorEq, false_and, exists_false, or_false, false_or, tSeq, tNext, tIfS, tRet, tRetN, tDrop, tAsg, gName, tPar, tPar3, tAug, ipI, tVar, tC, tOp, tUn, tCB, tD, tDK, tCons, tNil, rI, rI0, rU, tB, tTest, tCallS, tErr, tAnd, tOr, tNot, tAndV, tOrV, tNotV, tIf, rEq, rNe, scal_ii, scal_bb, scal_ss, rGcd_eq, tBits, List.set_cons_zero, List.set_cons_succ, List.getElem?_cons_zero, List.getElem?_cons_succ, Option.some.injEq, exists_eq_left', V.int.injEq, V.bl.injEq, V.str.injEq, true_and, and_true, decide_eq_true_eq, List.cons.injEq, exists_eq_left, Bool.false_eq_true, if_false, if_true, ite_true, ite_false, Bool.not_eq_true', decide_eq_false_iff_not, Bool.not_not, e1, e2]
    refine ⟨okm z1 y1 (by omega) (by omega), okm d1 z2 (by omega) (by omega), okm (wide_lt d1 z2) y2 (by omega) (by omega), okm z1 y2 (by omega) (by omega), okm z2 y1 (by omega) (by omega), okm z3 y3 (by omega) (by omega), ?_⟩
    have nb := mul_ne (below_ne T2.ra.2) (below_ne T2.rb.2)
    exact ⟨D, _, _, _, rfl, d0, by omega, up (sz_add (up (wide_lt z1 y1) (show n + m ≤ n + m + 200 by omega)) (dmul_sz d1 z2 y2 (by omega))) (by omega), up (sz_add (wide_lt z1 y2) (wide_lt z2 y1)) (by omega), up (wide_lt z3 y3) (by omega), nb, fun p H1 np s1 e => kk p H1 np s1 ⟨e, least_good nb⟩⟩

theorem okXCheckMeasure {f : Addr} {fd : FuncData} (F : Fun K "check_measure" "check_measure" s_CheckMeasure f fd) (T : Txt K mg) {C_InvalidMeasure f_InvalidMeasure : Addr} {fd_InvalidMeasure : FuncData} (E_InvalidMeasure : ErrN P w K mg base "InvalidMeasure" C_InvalidMeasure f_InvalidMeasure fd_InvalidMeasure) {fIsMeasure : Addr} {fdIsMeasure : FuncData} (D_IsMeasure : DefAt P w K mg base 2 "is_measure" fIsMeasure fdIsMeasure ["value"] (spIsMeasure)) : FnOk P w K mg base (L2.CX P w) 3 f fd ["measure"] (spCheckMeasureX C_InvalidMeasure) := by
  refine F.okX scCheckMeasure (fun vs H Q E h => ?_) (fun cdv A outer s H vs Q E hr h => ?_)
  · obtain ⟨x, rfl, _⟩ := h
    rfl
  · obtain ⟨x, rfl, hO, k1, k2⟩ := h
    refine ⟨_, (pss_one (ps_if (pt_not (pt_val (pe_d D_IsMeasure hr (pa_cons (pv 0) pa_nil)))) (pss_one (ps_raise rfl takes_def (pmk_err E_InvalidMeasure.c hr (pa_cons (pv 0) pa_nil)))) pss_nil)), ?_⟩
    have e0 : start N_CheckMeasure [x] = [some x] := rfl
    rw [e0]
    simp only [cxK, wipe, tYes, List.map_cons, List.map_nil, rIxL, rSum, tSl, rSlL, tNoPart, tPart, exists_and_left, and_assoc, V.ref.injEq, HO.lst.injEq, HO.tup.injEq, tFor_eq, iRng1, iRng2, iList, iTup, tLc_eq, tLst, tTup, gSub, rSetL, gT, gL, gTup, gCons, gNil, atI_0, atI_1, atI_2, atI_3, List.length_cons, List.length_nil, Nat.zero_add, Nat.reduceAdd, Nat.reduceLeDiff, ixN_30, ixN_31, ixN_32, Int.reduceLT, Int.reduceLE, Int.reduceNeg, upd_same, reduceCtorEq, false_and, exists_false, or_false, false_or, tSeq, tNext, tIfS, tRet, tRetN, tDrop, tAsg, gName, tPar, tPar3, tAug, ipI, tVar, tC, tOp, tUn, tCB, tD, tDK, tCons, tNil, rI, rI0, rU, tB, tTest, tCallS, tErr, tAnd, tOr, tNot, tAndV, tOrV, tNotV, tIf, rEq, rNe, scal_ii, scal_bb, scal_ss, rGcd_eq, tBits, List.set_cons_zero, List.set_cons_succ, List.getElem?_cons_zero, List.getElem?_cons_succ, Option.some.injEq, exists_eq_left', V.int.injEq, V.bl.injEq, V.str.injEq, true_and, and_true, decide_eq_true_eq, List.cons.injEq, exists_eq_left, Bool.false_eq_true, if_false, if_true, ite_true, ite_false, Bool.not_eq_true', decide_eq_false_iff_not, Bool.not_not]
    refine ⟨x, rfl, hO, _, rfl, ?_⟩
    cases hm : measB x with
    | true =>
      rw [if_neg (by decide)]
      exact k1 hm
    | false =>
      rw [if_pos rfl]
      exact (k2 hm).now (Same.refl _)

def InvCheckX (x : V) (a : Addr) (CR : Addr) (D : Int) (rs : List V) (H : Hp) (Q : VK) (E : XK) : Nat → SV → Hp → Prop := fun i σ H2 => ∃ v : Option V, σ = [some x, some (.ref a), v] ∧ Same H H2 ∧ Meets H Q E (ocRoots CR D H (rs.drop i) .ok)

theorem okXCheck {f : Addr} {fd : FuncData} (F : Fun K "_check" "_check" s_Check f fd) (T : Txt K mg) {C_InvalidRoot f_InvalidRoot : Addr} {fd_InvalidRoot : FuncData} (E_InvalidRoot : ErrN P w K mg base "InvalidRoot" C_InvalidRoot f_InvalidRoot fd_InvalidRoot) {fxCheckMeasure : Addr} {fdxCheckMeasure : FuncData} (X_CheckMeasure : DefX P w K mg base 3 "check_measure" fxCheckMeasure fdxCheckMeasure ["measure"] (spCheckMeasureX C_InvalidMeasure)) {fIsRootOf : Addr} {fdIsRootOf : FuncData} (D_IsRootOf : DefAt P w K mg base 3 "_is_root_of" fIsRootOf fdIsRootOf ["measure", "value"] (spIsRootOf)) : FnOk P w K mg base (L2.CX P w) 4 f fd ["measure", "roots"] (spCheckX C_InvalidMeasure C_InvalidRoot) := by
  refine F.okX scCheck (fun vs H Q E h => ?_) (fun cdv A outer s H vs Q E hr h => ?_)
  · obtain ⟨x, a, rs, rfl, _⟩ := h
    rfl
  · obtain ⟨x, a, rs, rfl, hO, hD, ha, hR, kk⟩ := h
    refine ⟨_, (pss_cons (ps_expr (pe_dS X_CheckMeasure takes_def hr (pa_cons (pv 0) pa_nil)))
        (pss_one (ps_for (passes_of rfl) rfl (pi_tup (pv 1)) (pg_name (i := 2) scCheck.nd rfl (Or.inl rfl)) (pss_one (ps_if (pt_not (pt_val (pe_d D_IsRootOf hr (pa_cons (pv 0) (pa_cons (pv 2) pa_nil))))) (pss_one (ps_raise rfl takes_def (pmk_err E_InvalidRoot.c hr (pa_cons (pv 2) pa_nil)))) pss_nil))))), ?_⟩
    have e0 : start N_Check [x, .ref a] = [some x, some (.ref a), none] := rfl
    rw [e0]
    simp only [cxK, wipe, tYes, List.map_cons, List.map_nil, rIxL, rSum, tSl, rSlL, tNoPart, tPart, exists_and_left, and_assoc, V.ref.injEq, HO.lst.injEq, HO.tup.injEq, tFor_eq, iRng1, iRng2, iList, iTup, tLc_eq, tLst, tTup, gSub, rSetL, gT, gL, gTup, gCons, gNil, atI_0, atI_1, atI_2, atI_3, List.length_cons, List.length_nil, Nat.zero_add, Nat.reduceAdd, Nat.reduceLeDiff, ixN_30, ixN_31, ixN_32, Int.reduceLT, Int.reduceLE, Int.reduceNeg, upd_same, reduceCtorEq, false_and, exists_false, or_false, false_or, tSeq, tNext, tIfS, tRet, tRetN, tDrop, tAsg, gName, tPar, tPar3, tAug, ipI, tVar, tC, tOp, tUn, tCB, tD, tDK, tCons, tNil, rI, rI0, rU, tB, tTest, tCallS, tErr, tAnd, tOr, tNot, tAndV, tOrV, tNotV, tIf, rEq, rNe, scal_ii, scal_bb, scal_ss, rGcd_eq, tBits, List.set_cons_zero, List.set_cons_succ, List.getElem?_cons_zero, List.getElem?_cons_succ, Option.some.injEq, exists_eq_left', V.int.injEq, V.bl.injEq, V.str.injEq, true_and, and_true, decide_eq_true_eq, List.cons.injEq, exists_eq_left, Bool.false_eq_true, if_false, if_true, ite_true, ite_false, Bool.not_eq_true', decide_eq_false_iff_not, Bool.not_not]
    unfold ocM at kk
    refine ⟨x, rfl, hO, fun hm => ?_, fun hm => ?_⟩
    · obtain ⟨D, rfl, hM⟩ := measB_get hm
      rw [if_pos hm] at kk
      have h5 := hM.1
      refine ⟨⟨_, SqT.of ha⟩, ?_⟩
      refine forW_tup (xs := rs) (InvCheckX (.int D) a C_InvalidRoot D rs H Q E) ⟨none, rfl, Same.refl _, kk⟩ (fun i σ H2 _ z => ?_) ?_ ?_
      · obtain ⟨_, _, s2, _⟩ := z
        exact SqT.of (s2 _ _ ha)
      · rintro i r σ' H2 hr ⟨v, rfl, s2, kr⟩
        have hmem := List.mem_of_getElem? hr
        have hok := hR r hmem
        simp only [cxK, wipe, tYes, List.map_cons, List.map_nil, rIxL, rSum, tSl, rSlL, tNoPart, tPart, exists_and_left, and_assoc, V.ref.injEq, HO.lst.injEq, HO.tup.injEq, tFor_eq, iRng1, iRng2, iList, iTup, tLc_eq, tLst, tTup, gSub, rSetL, gT, gL, gTup, gCons, gNil, atI_0, atI_1, atI_2, atI_3, List.length_cons, List.length_nil, Nat.zero_add, Nat.reduceAdd, Nat.reduceLeDiff, ixN_30, ixN_31, ixN_32, Int.reduceLT, Int.reduceLE, Int.reduceNeg, upd_same, reduceCtorEq, false_and, exists_false, or_false, false_or, tSeq, tNext, tIfS, tRet, tRetN, tDrop, tAsg, gName, tPar, tPar3, tAug, ipI, tVar, tC, tOp, tUn, tCB, tD, tDK, tCons, tNil, rI, rI0, rU, tB, tTest, tCallS, tErr, tAnd, tOr, tNot, tAndV, tOrV, tNotV, tIf, rEq, rNe, scal_ii, scal_bb, scal_ss, rGcd_eq, tBits, List.set_cons_zero, List.set_cons_succ, List.getElem?_cons_zero, List.getElem?_cons_succ, Option.some.injEq, exists_eq_left', V.int.injEq, V.bl.injEq, V.str.injEq, true_and, and_true, decide_eq_true_eq, List.cons.injEq, exists_eq_left, Bool.false_eq_true, if_false, if_true, ite_true, ite_false, Bool.not_eq_true', decide_eq_false_iff_not, Bool.not_not]
        refine ⟨D, r, rfl, by omega, by have := hD D rfl; omega, hok.same s2, fun H3 s3 => ⟨_, rfl, ?_⟩⟩
        rw [rootB_same s2 hok.1]
        have hdrop : rs.drop i = r :: rs.drop (i + 1) := by
          obtain ⟨hlt, he⟩ := List.getElem?_eq_some_iff.mp hr
          rw [List.drop_eq_getElem_cons hlt, he]
        rw [hdrop] at kr
        unfold ocRoots at kr
        cases hb : rootB D H r with
        | true =>
          rw [if_neg (by decide)]
          rw [if_pos hb] at kr
          exact ⟨_, rfl, s2.trans s3, kr⟩
        | false =>
          rw [if_pos rfl]
          rw [if_neg (by rw [hb]; decide)] at kr
          exact Err.now kr (s2.trans s3)
      · rintro σ' H2 ⟨v, rfl, s2, kr⟩
        rw [List.drop_length] at kr
        exact kr _ _ s2
    · rw [if_neg (by rw [hm]; decide)] at kk
      exact kk

theorem okXRootPlus {f : Addr} {fd : FuncData} (F : Fun K "root_plus" "root_plus" s_RootPlus f fd) (T : Txt K mg) {fxCheck : Addr} {fdxCheck : FuncData} (X_Check : DefX P w K mg base 4 "_check" fxCheck fdxCheck ["measure", "roots"] (spCheckX C_InvalidMeasure C_InvalidRoot)) {fTotal : Addr} {fdTotal : FuncData} (D_Total : DefAt P w K mg base 3 "_total" fTotal fdTotal ["measure", "one", "other", "times"] (spTotal)) : FnOk P w K mg base (L2.CX P w) 5 f fd ["measure", "one", "other"] (spRoot2X C_InvalidMeasure C_InvalidRoot) := by
  refine F.okX scRootPlus (fun vs H Q E h => ?_) (fun cdv A outer s H vs Q E hr h => ?_)
  · obtain ⟨x, o1, o2, rfl, _⟩ := h
    rfl
  · obtain ⟨x, o1, o2, rfl, A, kk⟩ := h
    refine ⟨_, (pss_cons (ps_expr (pe_dS X_Check takes_def hr (pa_cons (pv 0) (pa_cons (pe_tup (pa_cons (pv 1) (pa_cons (pv 2) pa_nil))) pa_nil))))
        (pss_one (ps_ret (pe_d D_Total hr (pa_cons (pv 0) (pa_cons (pv 1) (pa_cons (pv 2) (pa_cons pe_int pa_nil)))))))), ?_⟩
    have e0 : start N_RootPlus [x, o1, o2] = [some x, some o1, some o2] := rfl
    rw [e0]
    simp only [cxK, wipe, tYes, List.map_cons, List.map_nil, rIxL, rSum, tSl, rSlL, tNoPart, tPart, exists_and_left, and_assoc, V.ref.injEq, HO.lst.injEq, HO.tup.injEq, tFor_eq, iRng1, iRng2, iList, iTup, tLc_eq, tLst, tTup, gSub, rSetL, gT, gL, gTup, gCons, gNil, atI_0, atI_1, atI_2, atI_3, List.length_cons, List.length_nil, Nat.zero_add, Nat.reduceAdd, Nat.reduceLeDiff, ixN_30, ixN_31, ixN_32, Int.reduceLT, Int.reduceLE, Int.reduceNeg, upd_same, reduceCtorEq, false_and, exists_false, or_false, false_or, tSeq, tNext, tIfS, tRet, tRetN, tDrop, tAsg, gName, tPar, tPar3, tAug, ipI, tVar, tC, tOp, tUn, tCB, tD, tDK, tCons, tNil, rI, rI0, rU, tB, tTest, tCallS, tErr, tAnd, tOr, tNot, tAndV, tOrV, tNotV, tIf, rEq, rNe, scal_ii, scal_bb, scal_ss, rGcd_eq, tBits, List.set_cons_zero, List.set_cons_succ, List.getElem?_cons_zero, List.getElem?_cons_succ, Option.some.injEq, exists_eq_left', V.int.injEq, V.bl.injEq, V.str.injEq, true_and, and_true, decide_eq_true_eq, List.cons.injEq, exists_eq_left, Bool.false_eq_true, if_false, if_true, ite_true, ite_false, Bool.not_eq_true', decide_eq_false_iff_not, Bool.not_not]
    refine ⟨by decide, fun p np => ⟨x, p, [o1, o2], rfl, A.ox.same (Same.upd np), fun D e => by have := A.d D e; omega, upd_same, fun r hr => (A.all r hr).same (Same.upd np), ?_⟩⟩
    refine meets_roots (Same.upd np) A.all kk (fun D e hM hr ko r H2 s2 => ?_)
    obtain ⟨a, b, t, u, rfl, rfl, T2⟩ := A.two e hM hr
    subst e
    have s3 := (Same.upd np).trans s2
    exact ⟨D, 1, a, b, t, u, 300, 300, rfl, .inl rfl, T2.same s3, by decide, fun q H3 nq s4 r => ko _ _ (s3.trans s4)⟩

theorem okXRootLess {f : Addr} {fd : FuncData} (F : Fun K "root_less" "root_less" s_RootLess f fd) (T : Txt K mg) {fxCheck : Addr} {fdxCheck : FuncData} (X_Check : DefX P w K mg base 4 "_check" fxCheck fdxCheck ["measure", "roots"] (spCheckX C_InvalidMeasure C_InvalidRoot)) {fTotal : Addr} {fdTotal : FuncData} (D_Total : DefAt P w K mg base 3 "_total" fTotal fdTotal ["measure", "one", "other", "times"] (spTotal)) : FnOk P w K mg base (L2.CX P w) 5 f fd ["measure", "one", "other"] (spRoot2X C_InvalidMeasure C_InvalidRoot) := by
  refine F.okX scRootLess (fun vs H Q E h => ?_) (fun cdv A outer s H vs Q E hr h => ?_)
  · obtain ⟨x, o1, o2, rfl, _⟩ := h
    rfl
  · obtain ⟨x, o1, o2, rfl, A, kk⟩ := h
    refine ⟨_, (pss_cons (ps_expr (pe_dS X_Check takes_def hr (pa_cons (pv 0) (pa_cons (pe_tup (pa_cons (pv 1) (pa_cons (pv 2) pa_nil))) pa_nil))))
        (pss_one (ps_ret (pe_d D_Total hr (pa_cons (pv 0) (pa_cons (pv 1) (pa_cons (pv 2) (pa_cons (pe_un un_neg pe_int) pa_nil)))))))), ?_⟩
    have e0 : start N_RootLess [x, o1, o2] = [some x, some o1, some o2] := rfl
    rw [e0]
    simp only [cxK, wipe, tYes, List.map_cons, List.map_nil, rIxL, rSum, tSl, rSlL, tNoPart, tPart, exists_and_left, and_assoc, V.ref.injEq, HO.lst.injEq, HO.tup.injEq, tFor_eq, iRng1, iRng2, iList, iTup, tLc_eq, tLst, tTup, gSub, rSetL, gT, gL, gTup, gCons, gNil, atI_0, atI_1, atI_2, atI_3, List.length_cons, List.length_nil, Nat.zero_add, Nat.reduceAdd, Nat.reduceLeDiff, ixN_30, ixN_31, ixN_32, Int.reduceLT, Int.reduceLE, Int.reduceNeg, upd_same, reduceCtorEq, false_and, exists_false, or_false, false_or, tSeq, tNext, tIfS, tRet, tRetN, tDrop, tAsg, gName, tPar, tPar3, tAug, ipI, tVar, tC, tOp, tUn, tCB, tD, tDK, tCons, tNil, rI, rI0, rU, tB, tTest, tCallS, tErr, tAnd, tOr, tNot, tAndV, tOrV, tNotV, tIf, rEq, rNe, scal_ii, scal_bb, scal_ss, rGcd_eq, tBits, List.set_cons_zero, List.set_cons_succ, List.getElem?_cons_zero, List.getElem?_cons_succ, Option.some.injEq, exists_eq_left', V.int.injEq, V.bl.injEq, V.str.injEq, true_and, and_true, decide_eq_true_eq, List.cons.injEq, exists_eq_left, Bool.false_eq_true, if_false, if_true, ite_true, ite_false, Bool.not_eq_true', decide_eq_false_iff_not, Bool.not_not]
    refine ⟨by decide, fun p np => ⟨x, p, [o1, o2], rfl, A.ox.same (Same.upd np), fun D e => by have := A.d D e; omega, upd_same, fun r hr => (A.all r hr).same (Same.upd np), ?_⟩⟩
    refine meets_roots (Same.upd np) A.all kk (fun D e hM hr ko r H2 s2 => ?_)
    obtain ⟨a, b, t, u, rfl, rfl, T2⟩ := A.two e hM hr
    subst e
    have s3 := (Same.upd np).trans s2
    exact ⟨D, -1, a, b, t, u, 300, 300, rfl, .inr rfl, T2.same s3, by decide, fun q H3 nq s4 r => ko _ _ (s3.trans s4)⟩

theorem okXRootTimes {f : Addr} {fd : FuncData} (F : Fun K "root_times" "root_times" s_RootTimes f fd) (T : Txt K mg) {fxCheck : Addr} {fdxCheck : FuncData} (X_Check : DefX P w K mg base 4 "_check" fxCheck fdxCheck ["measure", "roots"] (spCheckX C_InvalidMeasure C_InvalidRoot)) {fMultiplied : Addr} {fdMultiplied : FuncData} (D_Multiplied : DefAt P w K mg base 3 "_multiplied" fMultiplied fdMultiplied ["measure", "one", "other"] (spTimes)) : FnOk P w K mg base (L2.CX P w) 5 f fd ["measure", "one", "other"] (spRoot2X C_InvalidMeasure C_InvalidRoot) := by
  refine F.okX scRootTimes (fun vs H Q E h => ?_) (fun cdv A outer s H vs Q E hr h => ?_)
  · obtain ⟨x, o1, o2, rfl, _⟩ := h
    rfl
  · obtain ⟨x, o1, o2, rfl, A, kk⟩ := h
    refine ⟨_, (pss_cons (ps_expr (pe_dS X_Check takes_def hr (pa_cons (pv 0) (pa_cons (pe_tup (pa_cons (pv 1) (pa_cons (pv 2) pa_nil))) pa_nil))))
        (pss_one (ps_ret (pe_d D_Multiplied hr (pa_cons (pv 0) (pa_cons (pv 1) (pa_cons (pv 2) pa_nil))))))), ?_⟩
    have e0 : start N_RootTimes [x, o1, o2] = [some x, some o1, some o2] := rfl
    rw [e0]
    simp only [cxK, wipe, tYes, List.map_cons, List.map_nil, rIxL, rSum, tSl, rSlL, tNoPart, tPart, exists_and_left, and_assoc, V.ref.injEq, HO.lst.injEq, HO.tup.injEq, tFor_eq, iRng1, iRng2, iList, iTup, tLc_eq, tLst, tTup, gSub, rSetL, gT, gL, gTup, gCons, gNil, atI_0, atI_1, atI_2, atI_3, List.length_cons, List.length_nil, Nat.zero_add, Nat.reduceAdd, Nat.reduceLeDiff, ixN_30, ixN_31, ixN_32, Int.reduceLT, Int.reduceLE, Int.reduceNeg, upd_same, reduceCtorEq, false_and, exists_false, or_false, false_or, tSeq, tNext, tIfS, tRet, tRetN, tDrop, tAsg, gName, tPar, tPar3, tAug, ipI, tVar, tC, tOp, tUn, tCB, tD, tDK, tCons, tNil, rI, rI0, rU, tB, tTest, tCallS, tErr, tAnd, tOr, tNot, tAndV, tOrV, tNotV, tIf, rEq, rNe, scal_ii, scal_bb, scal_ss, rGcd_eq, tBits, List.set_cons_zero, List.set_cons_succ, List.getElem?_cons_zero, List.getElem?_cons_succ, Option.some.injEq, exists_eq_left', V.int.injEq, V.bl.injEq, V.str.injEq, true_and, and_true, decide_eq_true_eq, List.cons.injEq, exists_eq_left, Bool.false_eq_true, if_false, if_true, ite_true, ite_false, Bool.not_eq_true', decide_eq_false_iff_not, Bool.not_not]
    refine ⟨by decide, fun p np => ⟨x, p, [o1, o2], rfl, A.ox.same (Same.upd np), fun D e => by have := A.d D e; omega, upd_same, fun r hr => (A.all r hr).same (Same.upd np), ?_⟩⟩
    refine meets_roots (Same.upd np) A.all kk (fun D e hM hr ko r H2 s2 => ?_)
    obtain ⟨a, b, t, u, rfl, rfl, T2⟩ := A.two e hM hr
    subst e
    have s3 := (Same.upd np).trans s2
    exact ⟨D, a, b, t, u, 300, 300, rfl, T2.same s3, by decide, fun q H3 nq s4 r => ko _ _ (s3.trans s4)⟩

theorem okXRootOver {f : Addr} {fd : FuncData} (F : Fun K "root_over" "root_over" s_RootOver f fd) (T : Txt K mg) {C_InvalidRoot f_InvalidRoot : Addr} {fd_InvalidRoot : FuncData} (E_InvalidRoot : ErrN P w K mg base "InvalidRoot" C_InvalidRoot f_InvalidRoot fd_InvalidRoot) {fxCheck : Addr} {fdxCheck : FuncData} (X_Check : DefX P w K mg base 4 "_check" fxCheck fdxCheck ["measure", "roots"] (spCheckX C_InvalidMeasure C_InvalidRoot)) {fMultiplied : Addr} {fdMultiplied : FuncData} (D_Multiplied : DefAt P w K mg base 3 "_multiplied" fMultiplied fdMultiplied ["measure", "one", "other"] (spTimes)) {fReduced : Addr} {fdReduced : FuncData} (D_Reduced : DefAt P w K mg base 2 "_reduced" fReduced fdReduced ["measure", "x", "y", "below"] (spReduced)) : FnOk P w K mg base (L2.CX P w) 5 f fd ["measure", "one", "other"] (spRootOverX C_InvalidMeasure C_InvalidRoot) := by
  refine F.okX scRootOver (fun vs H Q E h => ?_) (fun cdv A outer s H vs Q E hr h => ?_)
  · obtain ⟨x, o1, o2, rfl, _⟩ := h
    rfl
  · obtain ⟨x, o1, o2, rfl, A, kk⟩ := h
    refine ⟨_, (pss_cons (ps_expr (pe_dS X_Check takes_def hr (pa_cons (pv 0) (pa_cons (pe_tup (pa_cons (pv 1) (pa_cons (pv 2) pa_nil))) pa_nil))))
        (pss_cons (ps_asg (pv 2) (pg_tupT 3 rfl (pgs_cons (pg_name (i := 3) scRootOver.nd rfl (Or.inl rfl)) (pgs_cons (pg_name (i := 4) scRootOver.nd rfl (Or.inl rfl)) (pgs_cons (pg_name (i := 5) scRootOver.nd rfl (Or.inl rfl)) pgs_nil)))))
        (pss_cons (ps_if (PW.pt (pw_and (pt_cmpR op_eq (pv 3) pe_int (nomark _)) (pw_and1 (pt_cmpR op_eq (pv 4) pe_int (nomark _))))) (pss_one (ps_raise rfl takes_def (pmk_err E_InvalidRoot.c hr (pa_cons (pv 2) pa_nil)))) pss_nil)
        (pss_cons (ps_set (i := 6) scRootOver.nd rfl (Or.inl rfl) (pe_op op_sub (pe_op op_mulU (pv 3) (pv 3)) (pe_op op_mulU (pe_op op_mulU (pv 0) (pv 4)) (pv 4))))
        (pss_one (ps_ret (pe_d D_Multiplied hr (pa_cons (pv 0) (pa_cons (pv 1) (pa_cons (pe_d D_Reduced hr (pa_cons (pv 0) (pa_cons (pe_op op_mulU (pv 5) (pv 3)) (pa_cons (pe_op op_mulU (pe_un un_neg (pv 5)) (pv 4)) (pa_cons (pv 6) pa_nil))))) pa_nil)))))))))), ?_⟩
    have e0 : start N_RootOver [x, o1, o2] = [some x, some o1, some o2, none, none, none, none] := rfl
    rw [e0]
    try (simp only [cxK, wipe, tYes, List.map_cons, List.map_nil, rIxL, rSum, tSl, rSlL, tNoPart, tPart, exists_and_left, and_assoc, V.ref.injEq, HO.lst.injEq, HO.tup.injEq, tFor_eq, iRng1, iRng2, iList, iTup, tLc_eq, tLst, tTup, gSub, rSetL, gT, gL, gTup, gCons, gNil, atI_0, atI_1, atI_2, atI_3, List.length_cons, List.length_nil, Nat.zero_add, Nat.reduceAdd, Nat.reduceLeDiff, ixN_30, ixN_31, ixN_32, Int.reduceLT, Int.reduceLE, Int.reduceNeg, upd_same, reduceCtorEq, false_and, exists_false, or_false, false_or, tNext, tIfS, tRet, tRetN, tDrop, tAsg, gName, tPar, tPar3, tAug, ipI, tVar, tC, tOp, tUn, tCB, tD, tDK, tCons, tNil, rI, rI0, rU, tB, tTest, tCallS, tErr, tAnd, tOr, tNot, tAndV, tOrV, tNotV, tIf, rEq, rNe, scal_ii, scal_bb, scal_ss, rGcd_eq, tBits, List.set_cons_zero, List.set_cons_succ, List.getElem?_cons_zero, List.getElem?_cons_succ, Option.some.injEq, exists_eq_left', V.int.injEq, V.bl.injEq, V.str.injEq, true_and, and_true, decide_eq_true_eq, List.cons.injEq, exists_eq_left, Bool.false_eq_true, if_false, if_true, ite_true, ite_false, Bool.not_eq_true', decide_eq_false_iff_not, Bool.not_not])
    refine seq_gen fun C1 hC1 => ?_
    simp only [cxK, wipe, tYes, List.map_cons, List.map_nil, rIxL, rSum, tSl, rSlL, tNoPart, tPart, exists_and_left, and_assoc, V.ref.injEq, HO.lst.injEq, HO.tup.injEq, tFor_eq, iRng1, iRng2, iList, iTup, tLc_eq, tLst, tTup, gSub, rSetL, gT, gL, gTup, gCons, gNil, atI_0, atI_1, atI_2, atI_3, List.length_cons, List.length_nil, Nat.zero_add, Nat.reduceAdd, Nat.reduceLeDiff, ixN_30, ixN_31, ixN_32, Int.reduceLT, Int.reduceLE, Int.reduceNeg, upd_same, reduceCtorEq, false_and, exists_false, or_false, false_or, tNext, tIfS, tRet, tRetN, tDrop, tAsg, gName, tPar, tPar3, tAug, ipI, tVar, tC, tOp, tUn, tCB, tD, tDK, tCons, tNil, rI, rI0, rU, tB, tTest, tCallS, tErr, tAnd, tOr, tNot, tAndV, tOrV, tNotV, tIf, rEq, rNe, scal_ii, scal_bb, scal_ss, rGcd_eq, tBits, List.set_cons_zero, List.set_cons_succ, List.getElem?_cons_zero, List.getElem?_cons_succ, Option.some.injEq, exists_eq_left', V.int.injEq, V.bl.injEq, V.str.injEq, true_and, and_true, decide_eq_true_eq, List.cons.injEq, exists_eq_left, Bool.false_eq_true, if_false, if_true, ite_true, ite_false, Bool.not_eq_true', decide_eq_false_iff_not, Bool.not_not]
    refine ⟨by decide, fun p np => ⟨x, p, [o1, o2], rfl, A.ox.same (Same.upd np), fun D e => by have := A.d D e; omega, upd_same, fun r hr => (A.all r hr).same (Same.upd np), ?_⟩⟩
    refine meets_roots (Same.upd np) A.all kk (fun D e hM hr ko r H2 s2 => ?_)
    obtain ⟨n, hn, a, b, t, u, rfl, rfl, T2⟩ : ∃ n : Nat, n = 300 ∧ ∃ a b t u, o1 = .ref a ∧ o2 = .ref b ∧ Two D H a b t u n n := ⟨300, rfl, A.two e hM hr⟩
    subst e
    have s3 := (Same.upd np).trans s2
    have T3 := T2.same s3
    rw [zeroB_at T2.rb] at ko
    have e3 : H2 b = some (.tup [.int u.1, .int u.2.1, .int u.2.2]) := T3.rb.1
    refine Eq.mpr (hC1 _ _) ?_
    simp only [cxK, wipe, tYes, List.map_cons, List.map_nil, rIxL, rSum, tSl, rSlL, tNoPart, tPart, exists_and_left, and_assoc, V.ref.injEq, HO.lst.injEq, HO.tup.injEq, tFor_eq, iRng1, iRng2, iList, iTup, tLc_eq, tLst, tTup, gSub, rSetL, gT, gL, gTup, gCons, gNil, atI_0, atI_1, atI_2, atI_3, List.length_cons, List.length_nil, Nat.zero_add, Nat.reduceAdd, Nat.reduceLeDiff, ixN_30, ixN_31, ixN_32, Int.reduceLT, Int.reduceLE, Int.reduceNeg, upd_same, reduceCtorEq, false_and, exists_false, or_false, false_or, tSeq, tNext, tIfS, tRet, tRetN, tDrop, tAsg, gName, tPar, tPar3, tAug, ipI, tVar, tC, tOp, tUn, tCB, tD, tDK, tCons, tNil, rI, rI0, rU, tB, tTest, tCallS, tErr, tAnd, tOr, tNot, tAndV, tOrV, tNotV, tIf, rEq, rNe, scal_ii, scal_bb, scal_ss, rGcd_eq, tBits, List.set_cons_zero, List.set_cons_succ, List.getElem?_cons_zero, List.getElem?_cons_succ, Option.some.injEq, exists_eq_left', V.int.injEq, V.bl.injEq, V.str.injEq, true_and, and_true, decide_eq_true_eq, List.cons.injEq, exists_eq_left, Bool.false_eq_true, if_false, if_true, ite_true, ite_false, Bool.not_eq_true', decide_eq_false_iff_not, Bool.not_not, e3]
    obtain ⟨d0, d1⟩ := T3.dn
    have d2 := T3.lt
    obtain ⟨z1, z2, z3⟩ := T3.za
    obtain ⟨y1, y2, y3⟩ := T3.zb
    have m1 := okm y1 y1 (by omega) (by omega)
    have m2 := okm d1 y2 (by omega) (by omega)
    have m3 := okm (wide_lt d1 y2) y2 (by omega) (by omega)
    have m4 := okm y3 y1 (by omega) (by omega)
    have y4 : (-u.2.2).natAbs < 2 ^ n := by rw [Int.natAbs_neg]; exact y3
    have m5 := okm y4 y2 (by omega) (by omega)
    have fin : ¬ (u.1 = 0 ∧ u.2.1 = 0) → spReduced [V.int D, V.int (u.2.2 * u.1), V.int (-u.2.2 * u.2.1), V.int (normT D u)] H2 (fun x H2 => spTimes [V.int D, V.ref a, x] H2 Q E0) E0 := fun hz => by
      have kq : ∀ r H', Same H H' → Q r H' := by
        by_cases h1 : u.1 = 0
        · have h2 : u.2.1 ≠ 0 := fun h2 => hz ⟨h1, h2⟩
          rw [decide_eq_true h1, decide_eq_false h2] at ko
          exact ko
        · rw [decide_eq_false h1] at ko
          exact ko
      exact ⟨D, _, _, _, rfl, d0, by omega, up (wide_lt y3 y1) (by omega), up (wide_lt y4 y2) (by omega), up (norm_sz d1 T3.zb) (by omega), norm_ne d0 T3.rb.2 hz, fun q H4 nq s4 e =>
        ⟨D, a, q, t, invT D u, n, 2 * n + 201, rfl, ⟨hM, T3.lt, T3.ra.same s4, ⟨e, inv_good d0 T3.rb.2 hz⟩, T3.za, inv_sz d0 d1 T3.rb.2 hz T3.zb⟩, by omega, fun q2 H5 nq2 s5 r => kq _ _ ((s3.trans s4).trans s5)⟩⟩
    refine ite2 (fun hx => ?_) (fun hx => ?_)
    · refine ite2 (fun hy => ?_) (fun hy => ?_)
      · rw [decide_eq_true hx, decide_eq_true hy] at ko
        exact Err.now ko s3
      · exact ⟨m1, m2, m3, m4, m5, fin fun h => hy h.2⟩
    · exact ⟨m1, m2, m3, m4, m5, fin fun h => hx h.1⟩

theorem okXRootSide {f : Addr} {fd : FuncData} (F : Fun K "root_side" "root_side" s_RootSide f fd) (T : Txt K mg) {fxCheck : Addr} {fdxCheck : FuncData} (X_Check : DefX P w K mg base 4 "_check" fxCheck fdxCheck ["measure", "roots"] (spCheckX C_InvalidMeasure C_InvalidRoot)) {fSide : Addr} {fdSide : FuncData} (D_Side : DefAt P w K mg base 1 "_side" fSide fdSide ["number"] (spSgn)) : FnOk P w K mg base (L2.CX P w) 5 f fd ["measure", "root"] (spRoot1X C_InvalidMeasure C_InvalidRoot) := by
  refine F.okX scRootSide (fun vs H Q E h => ?_) (fun cdv A outer s H vs Q E hr h => ?_)
  · obtain ⟨x, o1, rfl, _⟩ := h
    rfl
  · obtain ⟨x, o1, rfl, hO, hD, hV, hz, kk⟩ := h
    refine ⟨_, (pss_cons (ps_expr (pe_dS X_Check takes_def hr (pa_cons (pv 0) (pa_cons (pe_tup (pa_cons (pv 1) pa_nil)) pa_nil))))
        (pss_cons (ps_asg (pv 1) (pg_tupT 3 rfl (pgs_cons (pg_name (i := 2) scRootSide.nd rfl (Or.inl rfl)) (pgs_cons (pg_name (i := 3) scRootSide.nd rfl (Or.inl rfl)) (pgs_cons (pg_name (i := 4) scRootSide.nd rfl (Or.inl rfl)) pgs_nil)))))
        (pss_cons (ps_if (pt_cmpR op_gt (pe_op op_mulU (pv 2) (pv 2)) (pe_op op_mulU (pe_op op_mulU (pv 0) (pv 3)) (pv 3)) (nomark _)) (pss_one (ps_ret (pe_d D_Side hr (pa_cons (pv 2) pa_nil)))) pss_nil)
        (pss_one (ps_ret (pe_d D_Side hr (pa_cons (pv 3) pa_nil))))))), ?_⟩
    have e0 : start N_RootSide [x, o1] = [some x, some o1, none, none, none] := rfl
    rw [e0]
    try (simp only [cxK, wipe, tYes, List.map_cons, List.map_nil, rIxL, rSum, tSl, rSlL, tNoPart, tPart, exists_and_left, and_assoc, V.ref.injEq, HO.lst.injEq, HO.tup.injEq, tFor_eq, iRng1, iRng2, iList, iTup, tLc_eq, tLst, tTup, gSub, rSetL, gT, gL, gTup, gCons, gNil, atI_0, atI_1, atI_2, atI_3, List.length_cons, List.length_nil, Nat.zero_add, Nat.reduceAdd, Nat.reduceLeDiff, ixN_30, ixN_31, ixN_32, Int.reduceLT, Int.reduceLE, Int.reduceNeg, upd_same, reduceCtorEq, false_and, exists_false, or_false, false_or, tNext, tIfS, tRet, tRetN, tDrop, tAsg, gName, tPar, tPar3, tAug, ipI, tVar, tC, tOp, tUn, tCB, tD, tDK, tCons, tNil, rI, rI0, rU, tB, tTest, tCallS, tErr, tAnd, tOr, tNot, tAndV, tOrV, tNotV, tIf, rEq, rNe, scal_ii, scal_bb, scal_ss, rGcd_eq, tBits, List.set_cons_zero, List.set_cons_succ, List.getElem?_cons_zero, List.getElem?_cons_succ, Option.some.injEq, exists_eq_left', V.int.injEq, V.bl.injEq, V.str.injEq, true_and, and_true, decide_eq_true_eq, List.cons.injEq, exists_eq_left, Bool.false_eq_true, if_false, if_true, ite_true, ite_false, Bool.not_eq_true', decide_eq_false_iff_not, Bool.not_not])
    refine seq_gen fun C1 hC1 => ?_
    simp only [cxK, wipe, tYes, List.map_cons, List.map_nil, rIxL, rSum, tSl, rSlL, tNoPart, tPart, exists_and_left, and_assoc, V.ref.injEq, HO.lst.injEq, HO.tup.injEq, tFor_eq, iRng1, iRng2, iList, iTup, tLc_eq, tLst, tTup, gSub, rSetL, gT, gL, gTup, gCons, gNil, atI_0, atI_1, atI_2, atI_3, List.length_cons, List.length_nil, Nat.zero_add, Nat.reduceAdd, Nat.reduceLeDiff, ixN_30, ixN_31, ixN_32, Int.reduceLT, Int.reduceLE, Int.reduceNeg, upd_same, reduceCtorEq, false_and, exists_false, or_false, false_or, tNext, tIfS, tRet, tRetN, tDrop, tAsg, gName, tPar, tPar3, tAug, ipI, tVar, tC, tOp, tUn, tCB, tD, tDK, tCons, tNil, rI, rI0, rU, tB, tTest, tCallS, tErr, tAnd, tOr, tNot, tAndV, tOrV, tNotV, tIf, rEq, rNe, scal_ii, scal_bb, scal_ss, rGcd_eq, tBits, List.set_cons_zero, List.set_cons_succ, List.getElem?_cons_zero, List.getElem?_cons_succ, Option.some.injEq, exists_eq_left', V.int.injEq, V.bl.injEq, V.str.injEq, true_and, and_true, decide_eq_true_eq, List.cons.injEq, exists_eq_left, Bool.false_eq_true, if_false, if_true, ite_true, ite_false, Bool.not_eq_true', decide_eq_false_iff_not, Bool.not_not]
    have hall : ∀ r ∈ [o1], OkV H r := fun r hr => by
      rw [List.mem_singleton] at hr
      subst hr
      exact hV
    refine ⟨by decide, fun p np => ⟨x, p, [o1], rfl, hO.same (Same.upd np), fun D e => by have := hD D e; omega, upd_same, fun r hr => (hall r hr).same (Same.upd np), ?_⟩⟩
    refine meets_roots (Same.upd np) hall kk (fun D e hM hr ko r H2 s2 => ?_)
    obtain ⟨a, t, rfl, ra⟩ := rootB_get (hr o1 (by simp))
    have hd := hD D e
    subst e
    have s3 := (Same.upd np).trans s2
    have e3 : H2 a = some (.tup [.int t.1, .int t.2.1, .int t.2.2]) := (ra.same s3).1
    obtain ⟨q1, q2, q3⟩ := hz a D t rfl ra
    have h5 := hM.1
    have hb := ra.2.1
    refine Eq.mpr (hC1 _ _) ?_
    simp only [cxK, wipe, tYes, List.map_cons, List.map_nil, rIxL, rSum, tSl, rSlL, tNoPart, tPart, exists_and_left, and_assoc, V.ref.injEq, HO.lst.injEq, HO.tup.injEq, tFor_eq, iRng1, iRng2, iList, iTup, tLc_eq, tLst, tTup, gSub, rSetL, gT, gL, gTup, gCons, gNil, atI_0, atI_1, atI_2, atI_3, List.length_cons, List.length_nil, Nat.zero_add, Nat.reduceAdd, Nat.reduceLeDiff, ixN_30, ixN_31, ixN_32, Int.reduceLT, Int.reduceLE, Int.reduceNeg, upd_same, reduceCtorEq, false_and, exists_false, or_false, false_or, tSeq, tNext, tIfS, tRet, tRetN, tDrop, tAsg, gName, tPar, tPar3, tAug, ipI, tVar, tC, tOp, tUn, tCB, tD, tDK, tCons, tNil, rI, rI0, rU, tB, tTest, tCallS, tErr, tAnd, tOr, tNot, tAndV, tOrV, tNotV, tIf, rEq, rNe, scal_ii, scal_bb, scal_ss, rGcd_eq, tBits, List.set_cons_zero, List.set_cons_succ, List.getElem?_cons_zero, List.getElem?_cons_succ, Option.some.injEq, exists_eq_left', V.int.injEq, V.bl.injEq, V.str.injEq, true_and, and_true, decide_eq_true_eq, List.cons.injEq, exists_eq_left, Bool.false_eq_true, if_false, if_true, ite_true, ite_false, Bool.not_eq_true', decide_eq_false_iff_not, Bool.not_not, e3]
    have d1 : D.natAbs < 2 ^ 200 := by omega
    refine ⟨okm q1 q1 (by decide) (by decide), okm d1 q2 (by decide) (by decide), okm (wide_lt d1 q2) q2 (by decide) (by decide), ite2 (fun hc => ?_) (fun hc => ?_)⟩
    · exact ⟨_, rfl, ko _ _ s3⟩
    · exact ⟨_, rfl, ko _ _ s3⟩

theorem okXRootFloor {f : Addr} {fd : FuncData} (F : Fun K "root_floor" "root_floor" s_RootFloor f fd) (T : Txt K mg) {fxCheck : Addr} {fdxCheck : FuncData} (X_Check : DefX P w K mg base 4 "_check" fxCheck fdxCheck ["measure", "roots"] (spCheckX C_InvalidMeasure C_InvalidRoot)) {fFloorOfMultiple : Addr} {fdFloorOfMultiple : FuncData} (D_FloorOfMultiple : DefAt P w K mg base 1 "_floor_of_multiple" fFloorOfMultiple fdFloorOfMultiple ["measure", "times"] (spFlM)) : FnOk P w K mg base (L2.CX P w) 5 f fd ["measure", "root"] (spRoot1X C_InvalidMeasure C_InvalidRoot) := by
  refine F.okX scRootFloor (fun vs H Q E h => ?_) (fun cdv A outer s H vs Q E hr h => ?_)
  · obtain ⟨x, o1, rfl, _⟩ := h
    rfl
  · obtain ⟨x, o1, rfl, hO, hD, hV, hz, kk⟩ := h
    refine ⟨_, (pss_cons (ps_expr (pe_dS X_Check takes_def hr (pa_cons (pv 0) (pa_cons (pe_tup (pa_cons (pv 1) pa_nil)) pa_nil))))
        (pss_cons (ps_asg (pv 1) (pg_tupT 3 rfl (pgs_cons (pg_name (i := 2) scRootFloor.nd rfl (Or.inl rfl)) (pgs_cons (pg_name (i := 3) scRootFloor.nd rfl (Or.inl rfl)) (pgs_cons (pg_name (i := 4) scRootFloor.nd rfl (Or.inl rfl)) pgs_nil)))))
        (pss_one (ps_ret (pe_op op_fdivX (pe_op op_add (pv 2) (pe_d D_FloorOfMultiple hr (pa_cons (pv 0) (pa_cons (pv 3) pa_nil)))) (pv 4)))))), ?_⟩
    have e0 : start N_RootFloor [x, o1] = [some x, some o1, none, none, none] := rfl
    rw [e0]
    try (simp only [cxK, wipe, tYes, List.map_cons, List.map_nil, rIxL, rSum, tSl, rSlL, tNoPart, tPart, exists_and_left, and_assoc, V.ref.injEq, HO.lst.injEq, HO.tup.injEq, tFor_eq, iRng1, iRng2, iList, iTup, tLc_eq, tLst, tTup, gSub, rSetL, gT, gL, gTup, gCons, gNil, atI_0, atI_1, atI_2, atI_3, List.length_cons, List.length_nil, Nat.zero_add, Nat.reduceAdd, Nat.reduceLeDiff, ixN_30, ixN_31, ixN_32, Int.reduceLT, Int.reduceLE, Int.reduceNeg, upd_same, reduceCtorEq, false_and, exists_false, or_false, false_or, tNext, tIfS, tRet, tRetN, tDrop, tAsg, gName, tPar, tPar3, tAug, ipI, tVar, tC, tOp, tUn, tCB, tD, tDK, tCons, tNil, rI, rI0, rU, tB, tTest, tCallS, tErr, tAnd, tOr, tNot, tAndV, tOrV, tNotV, tIf, rEq, rNe, scal_ii, scal_bb, scal_ss, rGcd_eq, tBits, List.set_cons_zero, List.set_cons_succ, List.getElem?_cons_zero, List.getElem?_cons_succ, Option.some.injEq, exists_eq_left', V.int.injEq, V.bl.injEq, V.str.injEq, true_and, and_true, decide_eq_true_eq, List.cons.injEq, exists_eq_left, Bool.false_eq_true, if_false, if_true, ite_true, ite_false, Bool.not_eq_true', decide_eq_false_iff_not, Bool.not_not])
    refine seq_gen fun C1 hC1 => ?_
    simp only [cxK, wipe, tYes, List.map_cons, List.map_nil, rIxL, rSum, tSl, rSlL, tNoPart, tPart, exists_and_left, and_assoc, V.ref.injEq, HO.lst.injEq, HO.tup.injEq, tFor_eq, iRng1, iRng2, iList, iTup, tLc_eq, tLst, tTup, gSub, rSetL, gT, gL, gTup, gCons, gNil, atI_0, atI_1, atI_2, atI_3, List.length_cons, List.length_nil, Nat.zero_add, Nat.reduceAdd, Nat.reduceLeDiff, ixN_30, ixN_31, ixN_32, Int.reduceLT, Int.reduceLE, Int.reduceNeg, upd_same, reduceCtorEq, false_and, exists_false, or_false, false_or, tNext, tIfS, tRet, tRetN, tDrop, tAsg, gName, tPar, tPar3, tAug, ipI, tVar, tC, tOp, tUn, tCB, tD, tDK, tCons, tNil, rI, rI0, rU, tB, tTest, tCallS, tErr, tAnd, tOr, tNot, tAndV, tOrV, tNotV, tIf, rEq, rNe, scal_ii, scal_bb, scal_ss, rGcd_eq, tBits, List.set_cons_zero, List.set_cons_succ, List.getElem?_cons_zero, List.getElem?_cons_succ, Option.some.injEq, exists_eq_left', V.int.injEq, V.bl.injEq, V.str.injEq, true_and, and_true, decide_eq_true_eq, List.cons.injEq, exists_eq_left, Bool.false_eq_true, if_false, if_true, ite_true, ite_false, Bool.not_eq_true', decide_eq_false_iff_not, Bool.not_not]
    have hall : ∀ r ∈ [o1], OkV H r := fun r hr => by
      rw [List.mem_singleton] at hr
      subst hr
      exact hV
    refine ⟨by decide, fun p np => ⟨x, p, [o1], rfl, hO.same (Same.upd np), fun D e => by have := hD D e; omega, upd_same, fun r hr => (hall r hr).same (Same.upd np), ?_⟩⟩
    refine meets_roots (Same.upd np) hall kk (fun D e hM hr ko r H2 s2 => ?_)
    obtain ⟨a, t, rfl, ra⟩ := rootB_get (hr o1 (by simp))
    have hd := hD D e
    subst e
    have s3 := (Same.upd np).trans s2
    have e3 : H2 a = some (.tup [.int t.1, .int t.2.1, .int t.2.2]) := (ra.same s3).1
    obtain ⟨q1, q2, q3⟩ := hz a D t rfl ra
    have h5 := hM.1
    have hb := ra.2.1
    refine Eq.mpr (hC1 _ _) ?_
    simp only [cxK, wipe, tYes, List.map_cons, List.map_nil, rIxL, rSum, tSl, rSlL, tNoPart, tPart, exists_and_left, and_assoc, V.ref.injEq, HO.lst.injEq, HO.tup.injEq, tFor_eq, iRng1, iRng2, iList, iTup, tLc_eq, tLst, tTup, gSub, rSetL, gT, gL, gTup, gCons, gNil, atI_0, atI_1, atI_2, atI_3, List.length_cons, List.length_nil, Nat.zero_add, Nat.reduceAdd, Nat.reduceLeDiff, ixN_30, ixN_31, ixN_32, Int.reduceLT, Int.reduceLE, Int.reduceNeg, upd_same, reduceCtorEq, false_and, exists_false, or_false, false_or, tSeq, tNext, tIfS, tRet, tRetN, tDrop, tAsg, gName, tPar, tPar3, tAug, ipI, tVar, tC, tOp, tUn, tCB, tD, tDK, tCons, tNil, rI, rI0, rU, tB, tTest, tCallS, tErr, tAnd, tOr, tNot, tAndV, tOrV, tNotV, tIf, rEq, rNe, scal_ii, scal_bb, scal_ss, rGcd_eq, tBits, List.set_cons_zero, List.set_cons_succ, List.getElem?_cons_zero, List.getElem?_cons_succ, Option.some.injEq, exists_eq_left', V.int.injEq, V.bl.injEq, V.str.injEq, true_and, and_true, decide_eq_true_eq, List.cons.injEq, exists_eq_left, Bool.false_eq_true, if_false, if_true, ite_true, ite_false, Bool.not_eq_true', decide_eq_false_iff_not, Bool.not_not, e3]
    refine ⟨D, t.2.1, rfl, by omega, by omega, by omega, by omega, ?_⟩
    simp only [cxK, wipe, tYes, List.map_cons, List.map_nil, rIxL, rSum, tSl, rSlL, tNoPart, tPart, exists_and_left, and_assoc, V.ref.injEq, HO.lst.injEq, HO.tup.injEq, tFor_eq, iRng1, iRng2, iList, iTup, tLc_eq, tLst, tTup, gSub, rSetL, gT, gL, gTup, gCons, gNil, atI_0, atI_1, atI_2, atI_3, List.length_cons, List.length_nil, Nat.zero_add, Nat.reduceAdd, Nat.reduceLeDiff, ixN_30, ixN_31, ixN_32, Int.reduceLT, Int.reduceLE, Int.reduceNeg, upd_same, reduceCtorEq, false_and, exists_false, or_false, false_or, tSeq, tNext, tIfS, tRet, tRetN, tDrop, tAsg, gName, tPar, tPar3, tAug, ipI, tVar, tC, tOp, tUn, tCB, tD, tDK, tCons, tNil, rI, rI0, rU, tB, tTest, tCallS, tErr, tAnd, tOr, tNot, tAndV, tOrV, tNotV, tIf, rEq, rNe, scal_ii, scal_bb, scal_ss, rGcd_eq, tBits, List.set_cons_zero, List.set_cons_succ, List.getElem?_cons_zero, List.getElem?_cons_succ, Option.some.injEq, exists_eq_left', V.int.injEq, V.bl.injEq, V.str.injEq, true_and, and_true, decide_eq_true_eq, List.cons.injEq, exists_eq_left, Bool.false_eq_true, if_false, if_true, ite_true, ite_false, Bool.not_eq_true', decide_eq_false_iff_not, Bool.not_not]
    exact ⟨cdiv (by omega) (by omega) (by omega), ko _ _ s3⟩

theorem okXIsRoot {f : Addr} {fd : FuncData} (F : Fun K "is_root" "is_root" s_IsRoot f fd) (T : Txt K mg) {fxCheckMeasure : Addr} {fdxCheckMeasure : FuncData} (X_CheckMeasure : DefX P w K mg base 3 "check_measure" fxCheckMeasure fdxCheckMeasure ["measure"] (spCheckMeasureX C_InvalidMeasure)) {fIsRootOf : Addr} {fdIsRootOf : FuncData} (D_IsRootOf : DefAt P w K mg base 3 "_is_root_of" fIsRootOf fdIsRootOf ["measure", "value"] (spIsRootOf)) : FnOk P w K mg base (L2.CX P w) 4 f fd ["measure", "value"] (spIsRootX C_InvalidMeasure) := by
  refine F.okX scIsRoot (fun vs H Q E h => ?_) (fun cdv A outer s H vs Q E hr h => ?_)
  · obtain ⟨x, o1, rfl, _⟩ := h
    rfl
  · obtain ⟨x, o1, rfl, hO, hD, hV, kk⟩ := h
    refine ⟨_, (pss_cons (ps_expr (pe_dS X_CheckMeasure takes_def hr (pa_cons (pv 0) pa_nil)))
        (pss_one (ps_ret (pe_d D_IsRootOf hr (pa_cons (pv 0) (pa_cons (pv 1) pa_nil)))))), ?_⟩
    have e0 : start N_IsRoot [x, o1] = [some x, some o1] := rfl
    rw [e0]
    simp only [cxK, wipe, tYes, List.map_cons, List.map_nil, rIxL, rSum, tSl, rSlL, tNoPart, tPart, exists_and_left, and_assoc, V.ref.injEq, HO.lst.injEq, HO.tup.injEq, tFor_eq, iRng1, iRng2, iList, iTup, tLc_eq, tLst, tTup, gSub, rSetL, gT, gL, gTup, gCons, gNil, atI_0, atI_1, atI_2, atI_3, List.length_cons, List.length_nil, Nat.zero_add, Nat.reduceAdd, Nat.reduceLeDiff, ixN_30, ixN_31, ixN_32, Int.reduceLT, Int.reduceLE, Int.reduceNeg, upd_same, reduceCtorEq, false_and, exists_false, or_false, false_or, tSeq, tNext, tIfS, tRet, tRetN, tDrop, tAsg, gName, tPar, tPar3, tAug, ipI, tVar, tC, tOp, tUn, tCB, tD, tDK, tCons, tNil, rI, rI0, rU, tB, tTest, tCallS, tErr, tAnd, tOr, tNot, tAndV, tOrV, tNotV, tIf, rEq, rNe, scal_ii, scal_bb, scal_ss, rGcd_eq, tBits, List.set_cons_zero, List.set_cons_succ, List.getElem?_cons_zero, List.getElem?_cons_succ, Option.some.injEq, exists_eq_left', V.int.injEq, V.bl.injEq, V.str.injEq, true_and, and_true, decide_eq_true_eq, List.cons.injEq, exists_eq_left, Bool.false_eq_true, if_false, if_true, ite_true, ite_false, Bool.not_eq_true', decide_eq_false_iff_not, Bool.not_not]
    unfold ocM at kk
    refine ⟨x, rfl, hO, fun hm => ?_, fun hm => ?_⟩
    · obtain ⟨D, rfl, hM⟩ := measB_get hm
      rw [if_pos hm] at kk
      have h5 := hM.1
      have hd := hD D rfl
      exact ⟨D, o1, rfl, by omega, by omega, hV, fun H1 s1 => kk _ _ s1⟩
    · rw [if_neg (by rw [hm]; decide)] at kk
      exact kk

def InvNumX (x a b c : V) (CN : Addr) (H0 H : Hp) (Q : VK) (E : XK) (o : Oc) : Nat → SV → Hp → Prop := fun i σ H2 => ∃ v : Option V, σ = [some x, some a, some b, some c, v] ∧ Same H0 H2 ∧ (∀ j, j < i → ∀ r, [a, b, c][j]? = some r → isIntV r = true) ∧ Meets H Q E (ocNums CN ([a, b, c].drop i) o)

theorem okXRootNumber {f : Addr} {fd : FuncData} (F : Fun K "root_number" "root_number" s_RootNumber f fd) (T : Txt K mg) {C_InvalidNumber f_InvalidNumber : Addr} {fd_InvalidNumber : FuncData} (E_InvalidNumber : ErrN P w K mg base "InvalidNumber" C_InvalidNumber f_InvalidNumber fd_InvalidNumber) {fxCheckMeasure : Addr} {fdxCheckMeasure : FuncData} (X_CheckMeasure : DefX P w K mg base 3 "check_measure" fxCheckMeasure fdxCheckMeasure ["measure"] (spCheckMeasureX C_InvalidMeasure)) {fReduced : Addr} {fdReduced : FuncData} (D_Reduced : DefAt P w K mg base 2 "_reduced" fReduced fdReduced ["measure", "x", "y", "below"] (spReduced)) {fIsWhole : Addr} {fdIsWhole : FuncData} (D_IsWhole : DefAt P w K mg base 1 "is_whole" fIsWhole fdIsWhole ["value"] (spWhole)) : FnOk P w K mg base (L2.CX P w) 4 f fd ["measure", "x", "y", "below"] (spRootNumberX C_InvalidMeasure C_InvalidNumber) := by
  refine F.okX scRootNumber (fun vs H Q E h => ?_) (fun cdv A outer s H vs Q E hr h => ?_)
  · obtain ⟨x, a, b, c, rfl, _⟩ := h
    rfl
  · obtain ⟨x, a, b, c, rfl, hO, hD, hV, kk⟩ := h
    refine ⟨_, (pss_cons (ps_expr (pe_dS X_CheckMeasure takes_def hr (pa_cons (pv 0) pa_nil)))
        (pss_cons (ps_for (passes_of rfl) rfl (pi_tup (pe_tup (pa_cons (pv 1) (pa_cons (pv 2) (pa_cons (pv 3) pa_nil))))) (pg_name (i := 4) scRootNumber.nd rfl (Or.inl rfl)) (pss_one (ps_if (pt_not (pt_val (pe_d D_IsWhole hr (pa_cons (pv 4) pa_nil)))) (pss_one (ps_raise rfl takes_def (pmk_err E_InvalidNumber.c hr (pa_cons (pv 4) pa_nil)))) pss_nil)))
        (pss_cons (ps_if (pt_cmpR op_eq (pv 3) pe_int (nomark _)) (pss_one (ps_raise rfl takes_def (pmk_err E_InvalidNumber.c hr (pa_cons (pv 3) pa_nil)))) pss_nil)
        (pss_one (ps_ret (pe_d D_Reduced hr (pa_cons (pv 0) (pa_cons (pv 1) (pa_cons (pv 2) (pa_cons (pv 3) pa_nil)))))))))), ?_⟩
    have e0 : start N_RootNumber [x, a, b, c] = [some x, some a, some b, some c, none] := rfl
    rw [e0]
    try (simp only [cxK, wipe, tYes, List.map_cons, List.map_nil, rIxL, rSum, tSl, rSlL, tNoPart, tPart, exists_and_left, and_assoc, V.ref.injEq, HO.lst.injEq, HO.tup.injEq, tFor_eq, iRng1, iRng2, iList, iTup, tLc_eq, tLst, tTup, gSub, rSetL, gT, gL, gTup, gCons, gNil, atI_0, atI_1, atI_2, atI_3, List.length_cons, List.length_nil, Nat.zero_add, Nat.reduceAdd, Nat.reduceLeDiff, ixN_30, ixN_31, ixN_32, Int.reduceLT, Int.reduceLE, Int.reduceNeg, upd_same, reduceCtorEq, false_and, exists_false, or_false, false_or, tNext, tIfS, tRet, tRetN, tDrop, tAsg, gName, tPar, tPar3, tAug, ipI, tVar, tC, tOp, tUn, tCB, tD, tDK, tCons, tNil, rI, rI0, rU, tB, tTest, tCallS, tErr, tAnd, tOr, tNot, tAndV, tOrV, tNotV, tIf, rEq, rNe, scal_ii, scal_bb, scal_ss, rGcd_eq, tBits, List.set_cons_zero, List.set_cons_succ, List.getElem?_cons_zero, List.getElem?_cons_succ, Option.some.injEq, exists_eq_left', V.int.injEq, V.bl.injEq, V.str.injEq, true_and, and_true, decide_eq_true_eq, List.cons.injEq, exists_eq_left, Bool.false_eq_true, if_false, if_true, ite_true, ite_false, Bool.not_eq_true', decide_eq_false_iff_not, Bool.not_not])
    refine seq_gen fun C1 hC1 => ?_
    try (simp only [cxK, wipe, tYes, List.map_cons, List.map_nil, rIxL, rSum, tSl, rSlL, tNoPart, tPart, exists_and_left, and_assoc, V.ref.injEq, HO.lst.injEq, HO.tup.injEq, tFor_eq, iRng1, iRng2, iList, iTup, tLc_eq, tLst, tTup, gSub, rSetL, gT, gL, gTup, gCons, gNil, atI_0, atI_1, atI_2, atI_3, List.length_cons, List.length_nil, Nat.zero_add, Nat.reduceAdd, Nat.reduceLeDiff, ixN_30, ixN_31, ixN_32, Int.reduceLT, Int.reduceLE, Int.reduceNeg, upd_same, reduceCtorEq, false_and, exists_false, or_false, false_or, tNext, tIfS, tRet, tRetN, tDrop, tAsg, gName, tPar, tPar3, tAug, ipI, tVar, tC, tOp, tUn, tCB, tD, tDK, tCons, tNil, rI, rI0, rU, tB, tTest, tCallS, tErr, tAnd, tOr, tNot, tAndV, tOrV, tNotV, tIf, rEq, rNe, scal_ii, scal_bb, scal_ss, rGcd_eq, tBits, List.set_cons_zero, List.set_cons_succ, List.getElem?_cons_zero, List.getElem?_cons_succ, Option.some.injEq, exists_eq_left', V.int.injEq, V.bl.injEq, V.str.injEq, true_and, and_true, decide_eq_true_eq, List.cons.injEq, exists_eq_left, Bool.false_eq_true, if_false, if_true, ite_true, ite_false, Bool.not_eq_true', decide_eq_false_iff_not, Bool.not_not])
    unfold ocM at kk
    refine ⟨x, rfl, hO, fun hm => ?_, fun hm => ?_⟩
    · obtain ⟨D, rfl, hM⟩ := measB_get hm
      rw [if_pos hm] at kk
      have hd := hD D rfl
      have h5 := hM.1
      refine Eq.mpr (hC1 _ _) ?_
      refine seq_gen fun C2 hC2 => ?_
      simp only [cxK, wipe, tYes, List.map_cons, List.map_nil, rIxL, rSum, tSl, rSlL, tNoPart, tPart, exists_and_left, and_assoc, V.ref.injEq, HO.lst.injEq, HO.tup.injEq, tFor_eq, iRng1, iRng2, iList, iTup, tLc_eq, tLst, tTup, gSub, rSetL, gT, gL, gTup, gCons, gNil, atI_0, atI_1, atI_2, atI_3, List.length_cons, List.length_nil, Nat.zero_add, Nat.reduceAdd, Nat.reduceLeDiff, ixN_30, ixN_31, ixN_32, Int.reduceLT, Int.reduceLE, Int.reduceNeg, upd_same, reduceCtorEq, false_and, exists_false, or_false, false_or, tNext, tIfS, tRet, tRetN, tDrop, tAsg, gName, tPar, tPar3, tAug, ipI, tVar, tC, tOp, tUn, tCB, tD, tDK, tCons, tNil, rI, rI0, rU, tB, tTest, tCallS, tErr, tAnd, tOr, tNot, tAndV, tOrV, tNotV, tIf, rEq, rNe, scal_ii, scal_bb, scal_ss, rGcd_eq, tBits, List.set_cons_zero, List.set_cons_succ, List.getElem?_cons_zero, List.getElem?_cons_succ, Option.some.injEq, exists_eq_left', V.int.injEq, V.bl.injEq, V.str.injEq, true_and, and_true, decide_eq_true_eq, List.cons.injEq, exists_eq_left, Bool.false_eq_true, if_false, if_true, ite_true, ite_false, Bool.not_eq_true', decide_eq_false_iff_not, Bool.not_not]
      refine ⟨by decide, fun p np => ⟨⟨_, SqT.of upd_same⟩, ?_⟩⟩
      refine forW_tup (xs := [a, b, c]) (InvNumX (.int D) a b c C_InvalidNumber (upd H p (.tup [a, b, c])) H Q E (if isZero c then .err C_InvalidNumber c else .ok)) ⟨none, rfl, Same.refl _, fun j hj => absurd hj (Nat.not_lt_zero _), kk⟩ (fun i σ H2 _ z => ?_) ?_ ?_
      · obtain ⟨_, _, s2, _⟩ := z
        exact SqT.of (s2 _ _ upd_same)
      · rintro i r σ' H2 hr ⟨v, rfl, s2, hp, kr⟩
        have hmem := List.mem_of_getElem? hr
        have sH := (Same.upd np).trans s2
        simp only [cxK, wipe, tYes, List.map_cons, List.map_nil, rIxL, rSum, tSl, rSlL, tNoPart, tPart, exists_and_left, and_assoc, V.ref.injEq, HO.lst.injEq, HO.tup.injEq, tFor_eq, iRng1, iRng2, iList, iTup, tLc_eq, tLst, tTup, gSub, rSetL, gT, gL, gTup, gCons, gNil, atI_0, atI_1, atI_2, atI_3, List.length_cons, List.length_nil, Nat.zero_add, Nat.reduceAdd, Nat.reduceLeDiff, ixN_30, ixN_31, ixN_32, Int.reduceLT, Int.reduceLE, Int.reduceNeg, upd_same, reduceCtorEq, false_and, exists_false, or_false, false_or, tNext, tIfS, tRet, tRetN, tDrop, tAsg, gName, tPar, tPar3, tAug, ipI, tVar, tC, tOp, tUn, tCB, tD, tDK, tCons, tNil, rI, rI0, rU, tB, tTest, tCallS, tErr, tAnd, tOr, tNot, tAndV, tOrV, tNotV, tIf, rEq, rNe, scal_ii, scal_bb, scal_ss, rGcd_eq, tBits, List.set_cons_zero, List.set_cons_succ, List.getElem?_cons_zero, List.getElem?_cons_succ, Option.some.injEq, exists_eq_left', V.int.injEq, V.bl.injEq, V.str.injEq, true_and, and_true, decide_eq_true_eq, List.cons.injEq, exists_eq_left, Bool.false_eq_true, if_false, if_true, ite_true, ite_false, Bool.not_eq_true', decide_eq_false_iff_not, Bool.not_not]
        have hdrop : [a, b, c].drop i = r :: [a, b, c].drop (i + 1) := by
          obtain ⟨hlt, he⟩ := List.getElem?_eq_some_iff.mp hr
          rw [List.drop_eq_getElem_cons hlt, he]
        rw [hdrop] at kr
        unfold ocNums at kr
        refine ⟨r, rfl, (hV r hmem).1.same sH, _, rfl, ?_⟩
        cases hb : isIntV r with
        | false =>
          rw [if_pos rfl]
          rw [if_neg (by rw [hb]; decide)] at kr
          exact Err.now kr sH
        | true =>
          rw [if_neg (by decide)]
          rw [if_pos hb] at kr
          refine ⟨_, rfl, s2, fun j hj q hq => ?_, kr⟩
          rcases Nat.lt_succ_iff_lt_or_eq.mp hj with h | rfl
          · exact hp j h q hq
          · rw [hr] at hq
            cases hq
            exact hb
      · rintro σ' H2 ⟨v, rfl, s2, hp, kr⟩
        have sH := (Same.upd np).trans s2
        obtain ⟨x1, rfl⟩ := isInt_get (hp 0 (show 0 < 3 by decide) a rfl)
        obtain ⟨y1, rfl⟩ := isInt_get (hp 1 (show 1 < 3 by decide) b rfl)
        obtain ⟨z1, rfl⟩ := isInt_get (hp 2 (show 2 < 3 by decide) c rfl)
        have q1 := (hV (.int x1) (by simp)).2 x1 rfl
        have q2 := (hV (.int y1) (by simp)).2 y1 rfl
        have q3 := (hV (.int z1) (by simp)).2 z1 rfl
        refine Eq.mpr (hC2 _ _) ?_
        simp only [cxK, wipe, tYes, List.map_cons, List.map_nil, rIxL, rSum, tSl, rSlL, tNoPart, tPart, exists_and_left, and_assoc, V.ref.injEq, HO.lst.injEq, HO.tup.injEq, tFor_eq, iRng1, iRng2, iList, iTup, tLc_eq, tLst, tTup, gSub, rSetL, gT, gL, gTup, gCons, gNil, atI_0, atI_1, atI_2, atI_3, List.length_cons, List.length_nil, Nat.zero_add, Nat.reduceAdd, Nat.reduceLeDiff, ixN_30, ixN_31, ixN_32, Int.reduceLT, Int.reduceLE, Int.reduceNeg, upd_same, reduceCtorEq, false_and, exists_false, or_false, false_or, tSeq, tNext, tIfS, tRet, tRetN, tDrop, tAsg, gName, tPar, tPar3, tAug, ipI, tVar, tC, tOp, tUn, tCB, tD, tDK, tCons, tNil, rI, rI0, rU, tB, tTest, tCallS, tErr, tAnd, tOr, tNot, tAndV, tOrV, tNotV, tIf, rEq, rNe, scal_ii, scal_bb, scal_ss, rGcd_eq, tBits, List.set_cons_zero, List.set_cons_succ, List.getElem?_cons_zero, List.getElem?_cons_succ, Option.some.injEq, exists_eq_left', V.int.injEq, V.bl.injEq, V.str.injEq, true_and, and_true, decide_eq_true_eq, List.cons.injEq, exists_eq_left, Bool.false_eq_true, if_false, if_true, ite_true, ite_false, Bool.not_eq_true', decide_eq_false_iff_not, Bool.not_not]
        have kr2 : Meets H Q E (if isZero (.int z1) then .err C_InvalidNumber (.int z1) else .ok) := kr
        refine ite2 (fun hz => ?_) (fun hz => ?_)
        · rw [if_pos (show isZero (.int z1) = true from decide_eq_true hz)] at kr2
          exact Err.now kr2 sH
        · rw [if_neg (show ¬ isZero (.int z1) = true from fun h => hz (of_decide_eq_true h))] at kr2
          exact ⟨D, x1, y1, z1, rfl, by omega, by omega, up q1 (by decide), up q2 (by decide), up q3 (by decide), hz, fun q H3 nq s3 e => kr2 _ _ (sH.trans s3)⟩
    · rw [if_neg (by rw [hm]; decide)] at kk
      exact kk

theorem okXLawAsked {f : Addr} {fd : FuncData} (F : Fun K "_law_asked" "_law_asked" s_LawAsked f fd) (T : Txt K mg) {C_InvalidMeasure f_InvalidMeasure : Addr} {fd_InvalidMeasure : FuncData} (E_InvalidMeasure : ErrN P w K mg base "InvalidMeasure" C_InvalidMeasure f_InvalidMeasure fd_InvalidMeasure) {C_InvalidRoot f_InvalidRoot : Addr} {fd_InvalidRoot : FuncData} (E_InvalidRoot : ErrN P w K mg base "InvalidRoot" C_InvalidRoot f_InvalidRoot fd_InvalidRoot) {C_InvalidNumber f_InvalidNumber : Addr} {fd_InvalidNumber : FuncData} (E_InvalidNumber : ErrN P w K mg base "InvalidNumber" C_InvalidNumber f_InvalidNumber fd_InvalidNumber) {fxRootNumber : Addr} {fdxRootNumber : FuncData} (X_RootNumber : DefX P w K mg base 4 "root_number" fxRootNumber fdxRootNumber ["measure", "x", "y", "below"] (spRootNumberX C_InvalidMeasure C_InvalidNumber)) {fxRootPlus : Addr} {fdxRootPlus : FuncData} (X_RootPlus : DefX P w K mg base 5 "root_plus" fxRootPlus fdxRootPlus ["measure", "one", "other"] (spRoot2X C_InvalidMeasure C_InvalidRoot)) {fxRootLess : Addr} {fdxRootLess : FuncData} (X_RootLess : DefX P w K mg base 5 "root_less" fxRootLess fdxRootLess ["measure", "one", "other"] (spRoot2X C_InvalidMeasure C_InvalidRoot)) {fxRootTimes : Addr} {fdxRootTimes : FuncData} (X_RootTimes : DefX P w K mg base 5 "root_times" fxRootTimes fdxRootTimes ["measure", "one", "other"] (spRoot2X C_InvalidMeasure C_InvalidRoot)) {fxRootOver : Addr} {fdxRootOver : FuncData} (X_RootOver : DefX P w K mg base 5 "root_over" fxRootOver fdxRootOver ["measure", "one", "other"] (spRootOverX C_InvalidMeasure C_InvalidRoot)) {fxRootSide : Addr} {fdxRootSide : FuncData} (X_RootSide : DefX P w K mg base 5 "root_side" fxRootSide fdxRootSide ["measure", "root"] (spRoot1X C_InvalidMeasure C_InvalidRoot)) {fxRootFloor : Addr} {fdxRootFloor : FuncData} (X_RootFloor : DefX P w K mg base 5 "root_floor" fxRootFloor fdxRootFloor ["measure", "root"] (spRoot1X C_InvalidMeasure C_InvalidRoot)) {fxIsRoot : Addr} {fdxIsRoot : FuncData} (X_IsRoot : DefX P w K mg base 4 "is_root" fxIsRoot fdxIsRoot ["measure", "value"] (spIsRootX C_InvalidMeasure)) : FnOk P w K mg base (L2.CX P w) 6 f fd ["_law_door", "_law_given"] (spAskedX C_InvalidMeasure C_InvalidRoot C_InvalidNumber) := by
  refine F.okX scLawAsked (fun vs H Q E h => ?_) (fun cdv A outer s H vs Q E hr h => ?_)
  · obtain ⟨k, q, g, rfl, _⟩ := h
    rfl
  · obtain ⟨k, q, g, rfl, hk, hq, hG, kk⟩ := h
    refine ⟨_, (pss_cons (ps_if (pt_cmpR op_lt (pv 0) pe_int (nomark _)) (pss_one (ps_ret (pe_ixcall (pe_ix ixL (pe_lst (pa_cons (pe_glob (v := .ref fxRootPlus) rfl X_RootPlus.m rfl) (pa_cons (pe_glob (v := .ref fxRootLess) rfl X_RootLess.m rfl) (pa_cons (pe_glob (v := .ref fxRootTimes) rfl X_RootTimes.m rfl) (pa_cons (pe_glob (v := .ref fxRootOver) rfl X_RootOver.m rfl) pa_nil))))) (pv 0) (fun _ _ => rfl)) takes_def hr (pa_cons (pe_ix ixL (pv 1) pe_int (fun _ _ => rfl)) (pa_cons (pe_ix ixL (pv 1) pe_int (fun _ _ => rfl)) (pa_cons (pe_ix ixL (pv 1) pe_int (fun _ _ => rfl)) pa_nil)))))) pss_nil)
        (pss_cons (ps_if (pt_cmpR op_lt (pv 0) pe_int (nomark _)) (pss_one (ps_ret (pe_ixcall (pe_ix ixL (pe_lst (pa_cons (pe_glob (v := .ref fxRootSide) rfl X_RootSide.m rfl) (pa_cons (pe_glob (v := .ref fxRootFloor) rfl X_RootFloor.m rfl) (pa_cons (pe_glob (v := .ref fxIsRoot) rfl X_IsRoot.m rfl) pa_nil)))) (pe_op op_sub (pv 0) pe_int) (fun _ _ => rfl)) takes_def hr (pa_cons (pe_ix ixL (pv 1) pe_int (fun _ _ => rfl)) (pa_cons (pe_ix ixL (pv 1) pe_int (fun _ _ => rfl)) pa_nil))))) pss_nil)
        (pss_one (ps_ret (pe_dS X_RootNumber takes_def hr (pa_cons (pe_ix ixL (pv 1) pe_int (fun _ _ => rfl)) (pa_cons (pe_ix ixL (pv 1) pe_int (fun _ _ => rfl)) (pa_cons (pe_ix ixL (pv 1) pe_int (fun _ _ => rfl)) (pa_cons (pe_ix ixL (pv 1) pe_int (fun _ _ => rfl)) pa_nil))))))))), ?_⟩
    have e0 : start N_LawAsked [.int k, .ref q] = [some (.int k), some (.ref q)] := rfl
    rw [e0]
    simp only [cxK, wipe, tYes, List.map_cons, List.map_nil, rIxL, rSum, tSl, rSlL, tNoPart, tPart, exists_and_left, and_assoc, V.ref.injEq, HO.lst.injEq, HO.tup.injEq, tFor_eq, iRng1, iRng2, iList, iTup, tLc_eq, tLst, tTup, gSub, rSetL, gT, gL, gTup, gCons, gNil, atI_0, atI_1, atI_2, atI_3, List.length_cons, List.length_nil, Nat.zero_add, Nat.reduceAdd, Nat.reduceLeDiff, ixN_30, ixN_31, ixN_32, Int.reduceLT, Int.reduceLE, Int.reduceNeg, upd_same, reduceCtorEq, false_and, exists_false, or_false, false_or, tSeq, tNext, tIfS, tRet, tRetN, tDrop, tAsg, gName, tPar, tPar3, tAug, ipI, tVar, tC, tOp, tUn, tCB, tD, tDK, tCons, tNil, rI, rI0, rU, tB, tTest, tCallS, tErr, tAnd, tOr, tNot, tAndV, tOrV, tNotV, tIf, rEq, rNe, scal_ii, scal_bb, scal_ss, rGcd_eq, tBits, List.set_cons_zero, List.set_cons_succ, List.getElem?_cons_zero, List.getElem?_cons_succ, Option.some.injEq, exists_eq_left', V.int.injEq, V.bl.injEq, V.str.injEq, true_and, and_true, decide_eq_true_eq, List.cons.injEq, exists_eq_left, Bool.false_eq_true, if_false, if_true, ite_true, ite_false, Bool.not_eq_true', decide_eq_false_iff_not, Bool.not_not, tIxCall]
    rcases (show k = 0 ∨ k = 1 ∨ k = 2 ∨ k = 3 ∨ k = 4 ∨ k = 5 ∨ k = 6 ∨ k = 7 by omega) with rfl | rfl | rfl | rfl | rfl | rfl | rfl | rfl
    · obtain ⟨g0, g1, g2, r, rfl⟩ : ∃ g0 g1 g2 r, g = g0 :: g1 :: g2 :: r := by
        have := hG.ln
        match g, this with
        | a :: b :: c :: r, _ => exact ⟨a, b, c, r, rfl⟩
      have v0 := hG.v g0 (by simp)
      have v1 := hG.v g1 (by simp)
      have v2 := hG.v g2 (by simp)
      have A : Ask2 H g0 g1 g2 := ⟨v0.1.1, hG.d, v1.1, v2.1, v1.2.1, v2.2.1⟩
      rw [if_pos (by decide)]
      refine ⟨by decide, fun p np => ?_⟩
      have s := Same.upd (o := .lst [V.ref fxRootPlus, V.ref fxRootLess, V.ref fxRootTimes, V.ref fxRootOver]) np
      have eq := s _ _ hq
      refine ⟨_, atI_nat (j := 0) rfl, _, rfl, _, X_RootPlus.at', _, eq, _, atI_0, _, eq, _, atI_1, _, eq, _, atI_2, g0, g1, g2, rfl, A.same s, ?_⟩
      exact meets_move s A.all rfl kk
    · obtain ⟨g0, g1, g2, r, rfl⟩ : ∃ g0 g1 g2 r, g = g0 :: g1 :: g2 :: r := by
        have := hG.ln
        match g, this with
        | a :: b :: c :: r, _ => exact ⟨a, b, c, r, rfl⟩
      have v0 := hG.v g0 (by simp)
      have v1 := hG.v g1 (by simp)
      have v2 := hG.v g2 (by simp)
      have A : Ask2 H g0 g1 g2 := ⟨v0.1.1, hG.d, v1.1, v2.1, v1.2.1, v2.2.1⟩
      rw [if_pos (by decide)]
      refine ⟨by decide, fun p np => ?_⟩
      have s := Same.upd (o := .lst [V.ref fxRootPlus, V.ref fxRootLess, V.ref fxRootTimes, V.ref fxRootOver]) np
      have eq := s _ _ hq
      refine ⟨_, atI_nat (j := 1) rfl, _, rfl, _, X_RootLess.at', _, eq, _, atI_0, _, eq, _, atI_1, _, eq, _, atI_2, g0, g1, g2, rfl, A.same s, ?_⟩
      exact meets_move s A.all rfl kk
    · obtain ⟨g0, g1, g2, r, rfl⟩ : ∃ g0 g1 g2 r, g = g0 :: g1 :: g2 :: r := by
        have := hG.ln
        match g, this with
        | a :: b :: c :: r, _ => exact ⟨a, b, c, r, rfl⟩
      have v0 := hG.v g0 (by simp)
      have v1 := hG.v g1 (by simp)
      have v2 := hG.v g2 (by simp)
      have A : Ask2 H g0 g1 g2 := ⟨v0.1.1, hG.d, v1.1, v2.1, v1.2.1, v2.2.1⟩
      rw [if_pos (by decide)]
      refine ⟨by decide, fun p np => ?_⟩
      have s := Same.upd (o := .lst [V.ref fxRootPlus, V.ref fxRootLess, V.ref fxRootTimes, V.ref fxRootOver]) np
      have eq := s _ _ hq
      refine ⟨_, atI_nat (j := 2) rfl, _, rfl, _, X_RootTimes.at', _, eq, _, atI_0, _, eq, _, atI_1, _, eq, _, atI_2, g0, g1, g2, rfl, A.same s, ?_⟩
      exact meets_move s A.all rfl kk
    · obtain ⟨g0, g1, g2, r, rfl⟩ : ∃ g0 g1 g2 r, g = g0 :: g1 :: g2 :: r := by
        have := hG.ln
        match g, this with
        | a :: b :: c :: r, _ => exact ⟨a, b, c, r, rfl⟩
      have v0 := hG.v g0 (by simp)
      have v1 := hG.v g1 (by simp)
      have v2 := hG.v g2 (by simp)
      have A : Ask2 H g0 g1 g2 := ⟨v0.1.1, hG.d, v1.1, v2.1, v1.2.1, v2.2.1⟩
      rw [if_pos (by decide)]
      refine ⟨by decide, fun p np => ?_⟩
      have s := Same.upd (o := .lst [V.ref fxRootPlus, V.ref fxRootLess, V.ref fxRootTimes, V.ref fxRootOver]) np
      have eq := s _ _ hq
      refine ⟨_, atI_nat (j := 3) rfl, _, rfl, _, X_RootOver.at', _, eq, _, atI_0, _, eq, _, atI_1, _, eq, _, atI_2, g0, g1, g2, rfl, A.same s, ?_⟩
      exact meets_move s A.all (by rw [zeroB_same s v2.1.1]; rfl) kk
    · obtain ⟨g0, g1, r, rfl⟩ : ∃ g0 g1 r, g = g0 :: g1 :: r := by
        have := hG.ln
        match g, this with
        | a :: b :: r, _ => exact ⟨a, b, r, rfl⟩
      have v0 := hG.v g0 (by simp)
      have v1 := hG.v g1 (by simp)
      rw [if_neg (by decide), if_pos (by decide)]
      refine ⟨by decide, fun p np => ?_⟩
      have s := Same.upd (o := .lst [V.ref fxRootSide, V.ref fxRootFloor, V.ref fxIsRoot]) np
      have eq := s _ _ hq
      refine ⟨_, atI_nat (j := 0) rfl, _, rfl, _, X_RootSide.at', _, eq, _, atI_0, _, eq, _, atI_1, g0, g1, rfl, v0.1.1.same s, hG.d, v1.1.same s, v1.2.1.same v1.1.1 s, meets_move s (fun r hr => by rw [List.mem_singleton] at hr; subst hr; exact v1.1) rfl kk⟩
    · obtain ⟨g0, g1, r, rfl⟩ : ∃ g0 g1 r, g = g0 :: g1 :: r := by
        have := hG.ln
        match g, this with
        | a :: b :: r, _ => exact ⟨a, b, r, rfl⟩
      have v0 := hG.v g0 (by simp)
      have v1 := hG.v g1 (by simp)
      rw [if_neg (by decide), if_pos (by decide)]
      refine ⟨by decide, fun p np => ?_⟩
      have s := Same.upd (o := .lst [V.ref fxRootSide, V.ref fxRootFloor, V.ref fxIsRoot]) np
      have eq := s _ _ hq
      refine ⟨_, atI_nat (j := 1) rfl, _, rfl, _, X_RootFloor.at', _, eq, _, atI_0, _, eq, _, atI_1, g0, g1, rfl, v0.1.1.same s, hG.d, v1.1.same s, v1.2.1.same v1.1.1 s, meets_move s (fun r hr => by rw [List.mem_singleton] at hr; subst hr; exact v1.1) rfl kk⟩
    · obtain ⟨g0, g1, r, rfl⟩ : ∃ g0 g1 r, g = g0 :: g1 :: r := by
        have := hG.ln
        match g, this with
        | a :: b :: r, _ => exact ⟨a, b, r, rfl⟩
      have v0 := hG.v g0 (by simp)
      have v1 := hG.v g1 (by simp)
      rw [if_neg (by decide), if_pos (by decide)]
      refine ⟨by decide, fun p np => ?_⟩
      have s := Same.upd (o := .lst [V.ref fxRootSide, V.ref fxRootFloor, V.ref fxIsRoot]) np
      have eq := s _ _ hq
      refine ⟨_, atI_nat (j := 2) rfl, _, rfl, _, X_IsRoot.at', _, eq, _, atI_0, _, eq, _, atI_1, g0, g1, rfl, v0.1.1.same s, hG.d, v1.1.same s, Meets.same kk s⟩
    · obtain ⟨g0, g1, g2, g3, r, rfl⟩ : ∃ g0 g1 g2 g3 r, g = g0 :: g1 :: g2 :: g3 :: r := by
        have := hG.ln
        match g, this with
        | a :: b :: c :: d :: r, _ => exact ⟨a, b, c, d, r, rfl⟩
      have v0 := hG.v g0 (by simp)
      rw [if_neg (by decide), if_neg (by decide)]
      refine ⟨_, hq, _, atI_0, _, hq, _, atI_1, _, hq, _, atI_2, _, hq, _, atI_3, g0, g1, g2, g3, rfl, v0.1.1, hG.d, fun r hr => ?_, kk⟩
      simp only [List.mem_cons, List.not_mem_nil, or_false] at hr
      rcases hr with rfl | rfl | rfl
      · exact ⟨(hG.v _ (by simp)).1.1, (hG.v _ (by simp)).2.2⟩
      · exact ⟨(hG.v _ (by simp)).1.1, (hG.v _ (by simp)).2.2⟩
      · exact ⟨(hG.v _ (by simp)).1.1, (hG.v _ (by simp)).2.2⟩

def InvMeasure (g : Addr) (n : Int) (k : Nat) (H : Hp) : Nat → SV → Hp → Prop := fun i σ H2 => ∃ (b : Int) (t : Option V), σ = [some (.ref g), some (.int n), some (.int b), t, none, none] ∧ 1 ≤ b ∧ b ≤ 5 * 10 ^ i ∧ GenAt H2 g (k + 20) ∧ Keep g H H2

theorem okLawMeasure {f : Addr} {fd : FuncData} (F : Fun K "_law_measure" "_law_measure" s_LawMeasure f fd) (T : Txt K mg) {fLawRandom : Addr} {fdLawRandom : FuncData} (D_LawRandom : DefAt P w K mg base 2 "_law_random" fLawRandom fdLawRandom ["_law_generator_here", "_law_bound"] (spRandom)) {fLawRoot : Addr} {fdLawRoot : FuncData} (D_LawRoot : DefAt P w K mg base 1 "_law_root" fLawRoot fdLawRoot ["_law_number"] (spRoot)) : FnOk P w K mg base CX0 3 f fd ["_law_generator_here", "_law_figures"] (spMeasure) := by
  refine F.ok scLawMeasure (fun vs H Q E h => ?_) (fun cdv A outer s H vs Q E hr h => ?_)
  · obtain ⟨g, n, k, rfl, _⟩ := h
    rfl
  · obtain ⟨g, n, k, rfl, hG, hk, hn1, hn2, kk⟩ := h
    refine ⟨_, (pss_cons (ps_set (i := 2) scLawMeasure.nd rfl (Or.inl rfl) pe_int)
        (pss_cons (ps_for PassesOwn.never rfl (pi_range1 rfl T.range (pa_cons (pe_op op_add pe_int (pe_d D_LawRandom hr (pa_cons (pv 0) (pa_cons (pv 1) pa_nil)))) pa_nil)) (pg_name (i := 3) scLawMeasure.nd rfl (Or.inl rfl)) (pss_one (ps_set (i := 2) scLawMeasure.nd rfl (Or.inl rfl) (pe_op op_mulU pe_int (pv 2)))))
        (pss_cons (ps_set (i := 4) scLawMeasure.nd rfl (Or.inl rfl) (pe_op op_add pe_int (pe_d D_LawRandom hr (pa_cons (pv 0) (pa_cons (pv 2) pa_nil)))))
        (pss_cons (ps_if (pt_cmpR op_eq (pe_d D_LawRandom hr (pa_cons (pv 0) (pa_cons pe_int pa_nil))) pe_int (nomark _)) (pss_one (ps_set (i := 4) scLawMeasure.nd rfl (Or.inl rfl) (pe_op op_mulU (pe_d D_LawRoot hr (pa_cons (pv 4) pa_nil)) (pe_d D_LawRoot hr (pa_cons (pv 4) pa_nil))))) pss_nil)
        (pss_cons (ps_set (i := 5) scLawMeasure.nd rfl (Or.inl rfl) (pe_op op_add (pe_op op_sub (pv 4) (pe_op op_mod (pe_callTy cr_int (by rfl) T.int (by decide +kernel) (pa_cons (pv 4) pa_nil)) pe_int)) (pe_d D_LawRandom hr (pa_cons (pv 0) (pa_cons pe_int pa_nil)))))
        (pss_one (ps_ret (pe_ifExp (pt_cmpR op_gt (pv 5) pe_int (nomark _)) (pv 5) pe_int)))))))), ?_⟩
    have e0 : start N_LawMeasure [.ref g, .int n] = [some (.ref g), some (.int n), none, none, none, none] := rfl
    rw [e0]
    simp only [cxK, wipe, tYes, List.map_cons, List.map_nil, rIxL, rSum, tSl, rSlL, tNoPart, tPart, exists_and_left, and_assoc, V.ref.injEq, HO.lst.injEq, HO.tup.injEq, tFor_eq, iRng1, iRng2, iList, iTup, tLc_eq, tLst, tTup, gSub, rSetL, gT, gL, gTup, gCons, gNil, atI_0, atI_1, atI_2, atI_3, List.length_cons, List.length_nil, Nat.zero_add, Nat.reduceAdd, Nat.reduceLeDiff, ixN_30, ixN_31, ixN_32, Int.reduceLT, Int.reduceLE, Int.reduceNeg, upd_same, reduceCtorEq, false_and, exists_false, or_false, false_or, tSeq, tNext, tIfS, tRet, tRetN, tDrop, tAsg, gName, tPar, tPar3, tAug, ipI, tVar, tC, tOp, tUn, tCB, tD, tDK, tCons, tNil, rI, rI0, rU, tB, tTest, tCallS, tErr, tAnd, tOr, tNot, tAndV, tOrV, tNotV, tIf, rEq, rNe, scal_ii, scal_bb, scal_ss, rGcd_eq, tBits, List.set_cons_zero, List.set_cons_succ, List.getElem?_cons_zero, List.getElem?_cons_succ, Option.some.injEq, exists_eq_left', V.int.injEq, V.bl.injEq, V.str.injEq, true_and, and_true, decide_eq_true_eq, List.cons.injEq, exists_eq_left, Bool.false_eq_true, if_false, if_true, ite_true, ite_false, Bool.not_eq_true', decide_eq_false_iff_not, Bool.not_not]
    refine ⟨g, n, k, rfl, hG, by omega, hn1, by omega, fun r H1 hr0 hr1 G1 K1 => ?_⟩
    simp only [cxK, wipe, tYes, List.map_cons, List.map_nil, rIxL, rSum, tSl, rSlL, tNoPart, tPart, exists_and_left, and_assoc, V.ref.injEq, HO.lst.injEq, HO.tup.injEq, tFor_eq, iRng1, iRng2, iList, iTup, tLc_eq, tLst, tTup, gSub, rSetL, gT, gL, gTup, gCons, gNil, atI_0, atI_1, atI_2, atI_3, List.length_cons, List.length_nil, Nat.zero_add, Nat.reduceAdd, Nat.reduceLeDiff, ixN_30, ixN_31, ixN_32, Int.reduceLT, Int.reduceLE, Int.reduceNeg, upd_same, reduceCtorEq, false_and, exists_false, or_false, false_or, tSeq, tNext, tIfS, tRet, tRetN, tDrop, tAsg, gName, tPar, tPar3, tAug, ipI, tVar, tC, tOp, tUn, tCB, tD, tDK, tCons, tNil, rI, rI0, rU, tB, tTest, tCallS, tErr, tAnd, tOr, tNot, tAndV, tOrV, tNotV, tIf, rEq, rNe, scal_ii, scal_bb, scal_ss, rGcd_eq, tBits, List.set_cons_zero, List.set_cons_succ, List.getElem?_cons_zero, List.getElem?_cons_succ, Option.some.injEq, exists_eq_left', V.int.injEq, V.bl.injEq, V.str.injEq, true_and, and_true, decide_eq_true_eq, List.cons.injEq, exists_eq_left, Bool.false_eq_true, if_false, if_true, ite_true, ite_false, Bool.not_eq_true', decide_eq_false_iff_not, Bool.not_not]
    refine ⟨by omega, by omega, ?_⟩
    refine forW_range (InvMeasure g n k H) ⟨5, none, rfl, by decide, by decide, G1, K1⟩ ?_ ?_
    · rintro i σ' H2 hi ⟨b, t, rfl, hb0, hb1, G2, K2⟩
      simp only [cxK, wipe, tYes, List.map_cons, List.map_nil, rIxL, rSum, tSl, rSlL, tNoPart, tPart, exists_and_left, and_assoc, V.ref.injEq, HO.lst.injEq, HO.tup.injEq, tFor_eq, iRng1, iRng2, iList, iTup, tLc_eq, tLst, tTup, gSub, rSetL, gT, gL, gTup, gCons, gNil, atI_0, atI_1, atI_2, atI_3, List.length_cons, List.length_nil, Nat.zero_add, Nat.reduceAdd, Nat.reduceLeDiff, ixN_30, ixN_31, ixN_32, Int.reduceLT, Int.reduceLE, Int.reduceNeg, upd_same, reduceCtorEq, false_and, exists_false, or_false, false_or, tSeq, tNext, tIfS, tRet, tRetN, tDrop, tAsg, gName, tPar, tPar3, tAug, ipI, tVar, tC, tOp, tUn, tCB, tD, tDK, tCons, tNil, rI, rI0, rU, tB, tTest, tCallS, tErr, tAnd, tOr, tNot, tAndV, tOrV, tNotV, tIf, rEq, rNe, scal_ii, scal_bb, scal_ss, rGcd_eq, tBits, List.set_cons_zero, List.set_cons_succ, List.getElem?_cons_zero, List.getElem?_cons_succ, Option.some.injEq, exists_eq_left', V.int.injEq, V.bl.injEq, V.str.injEq, true_and, and_true, decide_eq_true_eq, List.cons.injEq, exists_eq_left, Bool.false_eq_true, if_false, if_true, ite_true, ite_false, Bool.not_eq_true', decide_eq_false_iff_not, Bool.not_not]
      refine ⟨cml (by decide) (by decide), 10 * b, _, rfl, by omega, ?_, G2, K2⟩
      rw [Int.pow_succ]
      omega
    · rintro σ' H2 ⟨b, t, rfl, hb0, hb1, G2, K2⟩
      have hb2 : b ≤ 5 * 10 ^ 40 := by
        have h1 : (10 : Int) ^ (1 + r).toNat ≤ 10 ^ 40 := by
          have := Nat.pow_le_pow_right (show 0 < 10 by decide) (show (1 + r).toNat ≤ 40 by omega)
          have e : ((10 ^ (1 + r).toNat : Nat) : Int) ≤ ((10 ^ 40 : Nat) : Int) := Int.ofNat_le.mpr this
          simpa using e
        omega
      simp only [cxK, wipe, tYes, List.map_cons, List.map_nil, rIxL, rSum, tSl, rSlL, tNoPart, tPart, exists_and_left, and_assoc, V.ref.injEq, HO.lst.injEq, HO.tup.injEq, tFor_eq, iRng1, iRng2, iList, iTup, tLc_eq, tLst, tTup, gSub, rSetL, gT, gL, gTup, gCons, gNil, atI_0, atI_1, atI_2, atI_3, List.length_cons, List.length_nil, Nat.zero_add, Nat.reduceAdd, Nat.reduceLeDiff, ixN_30, ixN_31, ixN_32, Int.reduceLT, Int.reduceLE, Int.reduceNeg, upd_same, reduceCtorEq, false_and, exists_false, or_false, false_or, tSeq, tNext, tIfS, tRet, tRetN, tDrop, tAsg, gName, tPar, tPar3, tAug, ipI, tVar, tC, tOp, tUn, tCB, tD, tDK, tCons, tNil, rI, rI0, rU, tB, tTest, tCallS, tErr, tAnd, tOr, tNot, tAndV, tOrV, tNotV, tIf, rEq, rNe, scal_ii, scal_bb, scal_ss, rGcd_eq, tBits, List.set_cons_zero, List.set_cons_succ, List.getElem?_cons_zero, List.getElem?_cons_succ, Option.some.injEq, exists_eq_left', V.int.injEq, V.bl.injEq, V.str.injEq, true_and, and_true, decide_eq_true_eq, List.cons.injEq, exists_eq_left, Bool.false_eq_true, if_false, if_true, ite_true, ite_false, Bool.not_eq_true', decide_eq_false_iff_not, Bool.not_not]
      refine ⟨g, b, k + 20, rfl, G2, by omega, hb0, by omega, fun r1 H3 p0 p1 G3 K3 => ?_⟩
      simp only [cxK, wipe, tYes, List.map_cons, List.map_nil, rIxL, rSum, tSl, rSlL, tNoPart, tPart, exists_and_left, and_assoc, V.ref.injEq, HO.lst.injEq, HO.tup.injEq, tFor_eq, iRng1, iRng2, iList, iTup, tLc_eq, tLst, tTup, gSub, rSetL, gT, gL, gTup, gCons, gNil, atI_0, atI_1, atI_2, atI_3, List.length_cons, List.length_nil, Nat.zero_add, Nat.reduceAdd, Nat.reduceLeDiff, ixN_30, ixN_31, ixN_32, Int.reduceLT, Int.reduceLE, Int.reduceNeg, upd_same, reduceCtorEq, false_and, exists_false, or_false, false_or, tSeq, tNext, tIfS, tRet, tRetN, tDrop, tAsg, gName, tPar, tPar3, tAug, ipI, tVar, tC, tOp, tUn, tCB, tD, tDK, tCons, tNil, rI, rI0, rU, tB, tTest, tCallS, tErr, tAnd, tOr, tNot, tAndV, tOrV, tNotV, tIf, rEq, rNe, scal_ii, scal_bb, scal_ss, rGcd_eq, tBits, List.set_cons_zero, List.set_cons_succ, List.getElem?_cons_zero, List.getElem?_cons_succ, Option.some.injEq, exists_eq_left', V.int.injEq, V.bl.injEq, V.str.injEq, true_and, and_true, decide_eq_true_eq, List.cons.injEq, exists_eq_left, Bool.false_eq_true, if_false, if_true, ite_true, ite_false, Bool.not_eq_true', decide_eq_false_iff_not, Bool.not_not]
      refine ⟨g, 6, k + 40, rfl, G3, by omega, by decide, by decide, fun r2 H4 p2 p3 G4 K4 => ?_⟩
      simp only [cxK, wipe, tYes, List.map_cons, List.map_nil, rIxL, rSum, tSl, rSlL, tNoPart, tPart, exists_and_left, and_assoc, V.ref.injEq, HO.lst.injEq, HO.tup.injEq, tFor_eq, iRng1, iRng2, iList, iTup, tLc_eq, tLst, tTup, gSub, rSetL, gT, gL, gTup, gCons, gNil, atI_0, atI_1, atI_2, atI_3, List.length_cons, List.length_nil, Nat.zero_add, Nat.reduceAdd, Nat.reduceLeDiff, ixN_30, ixN_31, ixN_32, Int.reduceLT, Int.reduceLE, Int.reduceNeg, upd_same, reduceCtorEq, false_and, exists_false, or_false, false_or, tSeq, tNext, tIfS, tRet, tRetN, tDrop, tAsg, gName, tPar, tPar3, tAug, ipI, tVar, tC, tOp, tUn, tCB, tD, tDK, tCons, tNil, rI, rI0, rU, tB, tTest, tCallS, tErr, tAnd, tOr, tNot, tAndV, tOrV, tNotV, tIf, rEq, rNe, scal_ii, scal_bb, scal_ss, rGcd_eq, tBits, List.set_cons_zero, List.set_cons_succ, List.getElem?_cons_zero, List.getElem?_cons_succ, Option.some.injEq, exists_eq_left', V.int.injEq, V.bl.injEq, V.str.injEq, true_and, and_true, decide_eq_true_eq, List.cons.injEq, exists_eq_left, Bool.false_eq_true, if_false, if_true, ite_true, ite_false, Bool.not_eq_true', decide_eq_false_iff_not, Bool.not_not]
      have fin : ∀ (N : Int) (t1 : SV) (H5 : Hp), 4 ≤ N → N < 2 ^ 199 → GenAt H5 g (k + 60) → Keep g H H5 → spRandom [.ref g, .int 2] H5 (fun y H6 => ∃ x, y = V.int x ∧ if 4 < N - N % 4 + x then Q (.int (N - N % 4 + x)) H6 else Q (.int 5) H6) E0 := fun N t1 H5 q0 q1 G5 K5 => by
        refine ⟨g, 2, k + 60, rfl, G5, by omega, by decide, by decide, fun r3 H6 p4 p5 G6 K6 => ⟨r3, rfl, ite2 (fun hc => ?_) (fun hc => ?_)⟩⟩
        · exact kk _ _ ⟨by omega, by omega⟩ (by omega) (G6.mono (by omega)) (K5.trans K6)
        · exact kk _ _ ⟨by decide, by decide⟩ (by decide) (G6.mono (by omega)) (K5.trans K6)
      refine ite2 (fun hz => ?_) (fun hz => ?_)
      · refine ⟨5 + r1, rfl, by omega, by omega, fun H5 s5 => ?_⟩
        simp only [cxK, wipe, tYes, List.map_cons, List.map_nil, rIxL, rSum, tSl, rSlL, tNoPart, tPart, exists_and_left, and_assoc, V.ref.injEq, HO.lst.injEq, HO.tup.injEq, tFor_eq, iRng1, iRng2, iList, iTup, tLc_eq, tLst, tTup, gSub, rSetL, gT, gL, gTup, gCons, gNil, atI_0, atI_1, atI_2, atI_3, List.length_cons, List.length_nil, Nat.zero_add, Nat.reduceAdd, Nat.reduceLeDiff, ixN_30, ixN_31, ixN_32, Int.reduceLT, Int.reduceLE, Int.reduceNeg, upd_same, reduceCtorEq, false_and, exists_false, or_false, false_or, tSeq, tNext, tIfS, tRet, tRetN, tDrop, tAsg, gName, tPar, tPar3, tAug, ipI, tVar, tC, tOp, tUn, tCB, tD, tDK, tCons, tNil, rI, rI0, rU, tB, tTest, tCallS, tErr, tAnd, tOr, tNot, tAndV, tOrV, tNotV, tIf, rEq, rNe, scal_ii, scal_bb, scal_ss, rGcd_eq, tBits, List.set_cons_zero, List.set_cons_succ, List.getElem?_cons_zero, List.getElem?_cons_succ, Option.some.injEq, exists_eq_left', V.int.injEq, V.bl.injEq, V.str.injEq, true_and, and_true, decide_eq_true_eq, List.cons.injEq, exists_eq_left, Bool.false_eq_true, if_false, if_true, ite_true, ite_false, Bool.not_eq_true', decide_eq_false_iff_not, Bool.not_not]
        refine ⟨5 + r1, rfl, by omega, by omega, fun H6 s6 => ?_⟩
        obtain ⟨s0, s1, s2⟩ := rt_spec (show 0 ≤ 5 + r1 by omega)
        have hrt : 2 ≤ rt (5 + r1) := by
          by_cases h : 2 ≤ rt (5 + r1)
          · exact h
          · have := sq_mono (x := rt (5 + r1) + 1) (y := 2) (by omega) (by omega)
            omega
        have hsq := sq_mono (show (0 : Int) ≤ 2 by decide) hrt
        have hle : rt (5 + r1) ≤ 5 + r1 := by
          have := Int.mul_le_mul_of_nonneg_right (show 1 ≤ rt (5 + r1) by omega) s0
          omega
        simp only [cxK, wipe, tYes, List.map_cons, List.map_nil, rIxL, rSum, tSl, rSlL, tNoPart, tPart, exists_and_left, and_assoc, V.ref.injEq, HO.lst.injEq, HO.tup.injEq, tFor_eq, iRng1, iRng2, iList, iTup, tLc_eq, tLst, tTup, gSub, rSetL, gT, gL, gTup, gCons, gNil, atI_0, atI_1, atI_2, atI_3, List.length_cons, List.length_nil, Nat.zero_add, Nat.reduceAdd, Nat.reduceLeDiff, ixN_30, ixN_31, ixN_32, Int.reduceLT, Int.reduceLE, Int.reduceNeg, upd_same, reduceCtorEq, false_and, exists_false, or_false, false_or, tSeq, tNext, tIfS, tRet, tRetN, tDrop, tAsg, gName, tPar, tPar3, tAug, ipI, tVar, tC, tOp, tUn, tCB, tD, tDK, tCons, tNil, rI, rI0, rU, tB, tTest, tCallS, tErr, tAnd, tOr, tNot, tAndV, tOrV, tNotV, tIf, rEq, rNe, scal_ii, scal_bb, scal_ss, rGcd_eq, tBits, List.set_cons_zero, List.set_cons_succ, List.getElem?_cons_zero, List.getElem?_cons_succ, Option.some.injEq, exists_eq_left', V.int.injEq, V.bl.injEq, V.str.injEq, true_and, and_true, decide_eq_true_eq, List.cons.injEq, exists_eq_left, Bool.false_eq_true, if_false, if_true, ite_true, ite_false, Bool.not_eq_true', decide_eq_false_iff_not, Bool.not_not]
        refine ⟨cmw (by omega) (by omega) (by omega) (by omega), ?_⟩
        exact fin _ [] _ (by omega) (by omega) ((G4.same s5).same s6) (((K2.trans K3).trans K4).trans (Keep.of (s5.trans s6)))
      · exact fin _ [] _ (by omega) (by omega) G4 ((K2.trans K3).trans K4)

theorem okLawLeast {f : Addr} {fd : FuncData} (F : Fun K "_law_least" "_law_least" s_LawLeast f fd) (T : Txt K mg) {fLawRoot : Addr} {fdLawRoot : FuncData} (D_LawRoot : DefAt P w K mg base 1 "_law_root" fLawRoot fdLawRoot ["_law_number"] (spRoot)) {fLawCommon : Addr} {fdLawCommon : FuncData} (D_LawCommon : DefAt P w K mg base 1 "_law_common" fLawCommon fdLawCommon ["_law_one", "_law_other"] (spCommon)) : FnOk P w K mg base CX0 2 f fd ["_law_measure_here", "_law_x", "_law_y", "_law_below"] (spLeast) := by
  refine F.ok scLawLeast (fun vs H Q E h => ?_) (fun cdv A outer s H vs Q E hr h => ?_)
  · obtain ⟨D, x, y, b, rfl, _⟩ := h
    rfl
  · obtain ⟨D, x, y, b, rfl, h0, h1, hx, hy, hb, hb0, kk⟩ := h
    refine ⟨_, (pss_cons (ps_set (i := 4) scLawLeast.nd rfl (Or.inl rfl) (pe_d D_LawRoot hr (pa_cons (pv 0) pa_nil)))
        (pss_cons (ps_if (pt_cmpR op_eq (pe_op op_mulU (pv 4) (pv 4)) (pv 0) (nomark _)) (pss_one (ps_par (i := 1) (j := 2) rfl scLawLeast.nd rfl rfl (by decide) rfl rfl (pa_cons (pe_op op_add (pv 1) (pe_op op_mulU (pv 2) (pv 4))) (pa_cons pe_int pa_nil)) rfl)) pss_nil)
        (pss_cons (ps_set (i := 5) scLawLeast.nd rfl (Or.inl rfl) (pe_d D_LawCommon hr (pa_cons (pe_d D_LawCommon hr (pa_cons (pv 1) (pa_cons (pv 2) pa_nil))) (pa_cons (pv 3) pa_nil))))
        (pss_cons (ps_if (pt_cmpR op_lt (pv 3) pe_int (nomark _)) (pss_one (ps_set (i := 5) scLawLeast.nd rfl (Or.inl rfl) (pe_op op_sub pe_int (pv 5)))) pss_nil)
        (pss_one (ps_ret (pe_tup (pa_cons (pe_op op_fdivX (pv 1) (pv 5)) (pa_cons (pe_op op_fdivX (pv 2) (pv 5)) (pa_cons (pe_op op_fdivX (pv 3) (pv 5)) pa_nil)))))))))), ?_⟩
    have e0 : start N_LawLeast [.int D, .int x, .int y, .int b] = [some (.int D), some (.int x), some (.int y), some (.int b), none, none] := rfl
    rw [e0]
    simp only [cxK, wipe, tYes, List.map_cons, List.map_nil, rIxL, rSum, tSl, rSlL, tNoPart, tPart, exists_and_left, and_assoc, V.ref.injEq, HO.lst.injEq, HO.tup.injEq, tFor_eq, iRng1, iRng2, iList, iTup, tLc_eq, tLst, tTup, gSub, rSetL, gT, gL, gTup, gCons, gNil, atI_0, atI_1, atI_2, atI_3, List.length_cons, List.length_nil, Nat.zero_add, Nat.reduceAdd, Nat.reduceLeDiff, ixN_30, ixN_31, ixN_32, Int.reduceLT, Int.reduceLE, Int.reduceNeg, upd_same, reduceCtorEq, false_and, exists_false, or_false, false_or, tSeq, tNext, tIfS, tRet, tRetN, tDrop, tAsg, gName, tPar, tPar3, tAug, ipI, tVar, tC, tOp, tUn, tCB, tD, tDK, tCons, tNil, rI, rI0, rU, tB, tTest, tCallS, tErr, tAnd, tOr, tNot, tAndV, tOrV, tNotV, tIf, rEq, rNe, scal_ii, scal_bb, scal_ss, rGcd_eq, tBits, List.set_cons_zero, List.set_cons_succ, List.getElem?_cons_zero, List.getElem?_cons_succ, Option.some.injEq, exists_eq_left', V.int.injEq, V.bl.injEq, V.str.injEq, true_and, and_true, decide_eq_true_eq, List.cons.injEq, exists_eq_left, Bool.false_eq_true, if_false, if_true, ite_true, ite_false, Bool.not_eq_true', decide_eq_false_iff_not, Bool.not_not]
    refine ⟨D, rfl, h0, by omega, fun H1 s1 => ?_⟩
    obtain ⟨s0, s1', s2⟩ := rt_spec h0
    have hle : rt D ≤ D := by
      by_cases h : rt D ≤ 0
      · omega
      · have := Int.mul_le_mul_of_nonneg_right (show 1 ≤ rt D by omega) s0
        omega
    simp only [cxK, wipe, tYes, List.map_cons, List.map_nil, rIxL, rSum, tSl, rSlL, tNoPart, tPart, exists_and_left, and_assoc, V.ref.injEq, HO.lst.injEq, HO.tup.injEq, tFor_eq, iRng1, iRng2, iList, iTup, tLc_eq, tLst, tTup, gSub, rSetL, gT, gL, gTup, gCons, gNil, atI_0, atI_1, atI_2, atI_3, List.length_cons, List.length_nil, Nat.zero_add, Nat.reduceAdd, Nat.reduceLeDiff, ixN_30, ixN_31, ixN_32, Int.reduceLT, Int.reduceLE, Int.reduceNeg, upd_same, reduceCtorEq, false_and, exists_false, or_false, false_or, tSeq, tNext, tIfS, tRet, tRetN, tDrop, tAsg, gName, tPar, tPar3, tAug, ipI, tVar, tC, tOp, tUn, tCB, tD, tDK, tCons, tNil, rI, rI0, rU, tB, tTest, tCallS, tErr, tAnd, tOr, tNot, tAndV, tOrV, tNotV, tIf, rEq, rNe, scal_ii, scal_bb, scal_ss, rGcd_eq, tBits, List.set_cons_zero, List.set_cons_succ, List.getElem?_cons_zero, List.getElem?_cons_succ, Option.some.injEq, exists_eq_left', V.int.injEq, V.bl.injEq, V.str.injEq, true_and, and_true, decide_eq_true_eq, List.cons.injEq, exists_eq_left, Bool.false_eq_true, if_false, if_true, ite_true, ite_false, Bool.not_eq_true', decide_eq_false_iff_not, Bool.not_not]
    refine ⟨cmw (by omega) (by omega) (by omega) (by omega), ite2 (fun hs => ?_) (fun hs => ?_)⟩
    · refine ⟨cmw (by omega) (by omega) (by omega) (by omega), ?_⟩
      have hred : red (x + y * rt D) 0 b = least D x y b := by unfold least; rw [if_pos hs]
      refine ⟨_, _, rfl, ?_⟩
      refine ⟨_, _, rfl, ?_⟩
      simp only [cxK, wipe, tYes, List.map_cons, List.map_nil, rIxL, rSum, tSl, rSlL, tNoPart, tPart, exists_and_left, and_assoc, V.ref.injEq, HO.lst.injEq, HO.tup.injEq, tFor_eq, iRng1, iRng2, iList, iTup, tLc_eq, tLst, tTup, gSub, rSetL, gT, gL, gTup, gCons, gNil, atI_0, atI_1, atI_2, atI_3, List.length_cons, List.length_nil, Nat.zero_add, Nat.reduceAdd, Nat.reduceLeDiff, ixN_30, ixN_31, ixN_32, Int.reduceLT, Int.reduceLE, Int.reduceNeg, upd_same, reduceCtorEq, false_and, exists_false, or_false, false_or, tSeq, tNext, tIfS, tRet, tRetN, tDrop, tAsg, gName, tPar, tPar3, tAug, ipI, tVar, tC, tOp, tUn, tCB, tD, tDK, tCons, tNil, rI, rI0, rU, tB, tTest, tCallS, tErr, tAnd, tOr, tNot, tAndV, tOrV, tNotV, tIf, rEq, rNe, scal_ii, scal_bb, scal_ss, rGcd_eq, tBits, List.set_cons_zero, List.set_cons_succ, List.getElem?_cons_zero, List.getElem?_cons_succ, Option.some.injEq, exists_eq_left', V.int.injEq, V.bl.injEq, V.str.injEq, true_and, and_true, decide_eq_true_eq, List.cons.injEq, exists_eq_left, Bool.false_eq_true, if_false, if_true, ite_true, ite_false, Bool.not_eq_true', decide_eq_false_iff_not, Bool.not_not]
      have hl0 := lsg_ne (x := x + y * rt D) (y := 0) hb0
      have hl1 := lsg_size (x := x + y * rt D) (y := 0) hb0
      have dv : DivOk (lsg (x + y * rt D) (0) b) := cdiv hl0 (by omega) (by omega)
      refine ite2 (fun hn => ?_) (fun hn => ?_)
      · have e : 0 - gcdI (gcdI (x + y * rt D) (0)) b = lsg (x + y * rt D) (0) b := by unfold lsg; rw [if_pos hn]
        rw [e]
        refine ⟨dv, dv, dv, by decide, fun p np => kk p _ (s1.free np) (Same.upd2 s1 (s1.free np)) ?_⟩
        rw [upd_same, ← hred]
        rfl
      · have e : gcdI (gcdI (x + y * rt D) (0)) b = lsg (x + y * rt D) (0) b := by unfold lsg; rw [if_neg hn]
        rw [e]
        refine ⟨dv, dv, dv, by decide, fun p np => kk p _ (s1.free np) (Same.upd2 s1 (s1.free np)) ?_⟩
        rw [upd_same, ← hred]
        rfl
    · have hred : red x y b = least D x y b := by unfold least; rw [if_neg hs]
      refine ⟨_, _, rfl, ?_⟩
      refine ⟨_, _, rfl, ?_⟩
      simp only [cxK, wipe, tYes, List.map_cons, List.map_nil, rIxL, rSum, tSl, rSlL, tNoPart, tPart, exists_and_left, and_assoc, V.ref.injEq, HO.lst.injEq, HO.tup.injEq, tFor_eq, iRng1, iRng2, iList, iTup, tLc_eq, tLst, tTup, gSub, rSetL, gT, gL, gTup, gCons, gNil, atI_0, atI_1, atI_2, atI_3, List.length_cons, List.length_nil, Nat.zero_add, Nat.reduceAdd, Nat.reduceLeDiff, ixN_30, ixN_31, ixN_32, Int.reduceLT, Int.reduceLE, Int.reduceNeg, upd_same, reduceCtorEq, false_and, exists_false, or_false, false_or, tSeq, tNext, tIfS, tRet, tRetN, tDrop, tAsg, gName, tPar, tPar3, tAug, ipI, tVar, tC, tOp, tUn, tCB, tD, tDK, tCons, tNil, rI, rI0, rU, tB, tTest, tCallS, tErr, tAnd, tOr, tNot, tAndV, tOrV, tNotV, tIf, rEq, rNe, scal_ii, scal_bb, scal_ss, rGcd_eq, tBits, List.set_cons_zero, List.set_cons_succ, List.getElem?_cons_zero, List.getElem?_cons_succ, Option.some.injEq, exists_eq_left', V.int.injEq, V.bl.injEq, V.str.injEq, true_and, and_true, decide_eq_true_eq, List.cons.injEq, exists_eq_left, Bool.false_eq_true, if_false, if_true, ite_true, ite_false, Bool.not_eq_true', decide_eq_false_iff_not, Bool.not_not]
      have hl0 := lsg_ne (x := x) (y := y) hb0
      have hl1 := lsg_size (x := x) (y := y) hb0
      have dv : DivOk (lsg (x) (y) b) := cdiv hl0 (by omega) (by omega)
      refine ite2 (fun hn => ?_) (fun hn => ?_)
      · have e : 0 - gcdI (gcdI (x) (y)) b = lsg (x) (y) b := by unfold lsg; rw [if_pos hn]
        rw [e]
        refine ⟨dv, dv, dv, by decide, fun p np => kk p _ (s1.free np) (Same.upd2 s1 (s1.free np)) ?_⟩
        rw [upd_same, ← hred]
        rfl
      · have e : gcdI (gcdI (x) (y)) b = lsg (x) (y) b := by unfold lsg; rw [if_neg hn]
        rw [e]
        refine ⟨dv, dv, dv, by decide, fun p np => kk p _ (s1.free np) (Same.upd2 s1 (s1.free np)) ?_⟩
        rw [upd_same, ← hred]
        rfl

def InvDrawn5 (g : Addr) (D n : Int) (k : Nat) (H : Hp) : Nat → SV → Hp → Prop := fun i σ H2 => ∃ (b : Int) (t : Option V), σ = [some (.ref g), some (.int D), some (.int n), some (.int b), t, none, none, none] ∧ 1 ≤ b ∧ b ≤ 2 * 10 ^ i ∧ GenAt H2 g (k + 20) ∧ Keep g H H2

theorem okLawDrawn {f : Addr} {fd : FuncData} (F : Fun K "_law_drawn" "_law_drawn" s_LawDrawn f fd) (T : Txt K mg) {fLawLeast : Addr} {fdLawLeast : FuncData} (D_LawLeast : DefAt P w K mg base 2 "_law_least" fLawLeast fdLawLeast ["_law_measure_here", "_law_x", "_law_y", "_law_below"] (spLeast)) {fLawRandom : Addr} {fdLawRandom : FuncData} (D_LawRandom : DefAt P w K mg base 2 "_law_random" fLawRandom fdLawRandom ["_law_generator_here", "_law_bound"] (spRandom)) : FnOk P w K mg base CX0 3 f fd ["_law_generator_here", "_law_measure_here", "_law_figures"] (spDrawn) := by
  refine F.ok scLawDrawn (fun vs H Q E h => ?_) (fun cdv A outer s H vs Q E hr h => ?_)
  · obtain ⟨g, D, n, k, rfl, _⟩ := h
    rfl
  · obtain ⟨g, D, n, k, rfl, hG, hk, h0, h1, hn1, hn2, kk⟩ := h
    refine ⟨_, (pss_cons (ps_set (i := 3) scLawDrawn.nd rfl (Or.inl rfl) pe_int)
        (pss_cons (ps_for PassesOwn.never rfl (pi_range1 rfl T.range (pa_cons (pe_d D_LawRandom hr (pa_cons (pv 0) (pa_cons (pv 2) pa_nil))) pa_nil)) (pg_name (i := 4) scLawDrawn.nd rfl (Or.inl rfl)) (pss_one (ps_set (i := 3) scLawDrawn.nd rfl (Or.inl rfl) (pe_op op_mulU pe_int (pv 3)))))
        (pss_cons (ps_par3 (i := 5) (j := 6) (l := 7) rfl scLawDrawn.nd rfl rfl rfl (by decide) (by decide) (by decide) rfl rfl rfl (pa_cons (pe_op op_sub (pe_d D_LawRandom hr (pa_cons (pv 0) (pa_cons (pe_op op_add (pe_op op_mulU pe_int (pv 3)) pe_int) pa_nil))) (pv 3)) (pa_cons (pe_op op_sub (pe_d D_LawRandom hr (pa_cons (pv 0) (pa_cons (pe_op op_add (pe_op op_mulU pe_int (pv 3)) pe_int) pa_nil))) (pv 3)) (pa_cons (pe_op op_add pe_int (pe_d D_LawRandom hr (pa_cons (pv 0) (pa_cons (pv 3) pa_nil)))) pa_nil))) rfl)
        (pss_one (ps_ret (pe_d D_LawLeast hr (pa_cons (pv 1) (pa_cons (pv 5) (pa_cons (pv 6) (pa_cons (pv 7) pa_nil)))))))))), ?_⟩
    have e0 : start N_LawDrawn [.ref g, .int D, .int n] = [some (.ref g), some (.int D), some (.int n), none, none, none, none, none] := rfl
    rw [e0]
    simp only [cxK, wipe, tYes, List.map_cons, List.map_nil, rIxL, rSum, tSl, rSlL, tNoPart, tPart, exists_and_left, and_assoc, V.ref.injEq, HO.lst.injEq, HO.tup.injEq, tFor_eq, iRng1, iRng2, iList, iTup, tLc_eq, tLst, tTup, gSub, rSetL, gT, gL, gTup, gCons, gNil, atI_0, atI_1, atI_2, atI_3, List.length_cons, List.length_nil, Nat.zero_add, Nat.reduceAdd, Nat.reduceLeDiff, ixN_30, ixN_31, ixN_32, Int.reduceLT, Int.reduceLE, Int.reduceNeg, upd_same, reduceCtorEq, false_and, exists_false, or_false, false_or, tSeq, tNext, tIfS, tRet, tRetN, tDrop, tAsg, gName, tPar, tPar3, tAug, ipI, tVar, tC, tOp, tUn, tCB, tD, tDK, tCons, tNil, rI, rI0, rU, tB, tTest, tCallS, tErr, tAnd, tOr, tNot, tAndV, tOrV, tNotV, tIf, rEq, rNe, scal_ii, scal_bb, scal_ss, rGcd_eq, tBits, List.set_cons_zero, List.set_cons_succ, List.getElem?_cons_zero, List.getElem?_cons_succ, Option.some.injEq, exists_eq_left', V.int.injEq, V.bl.injEq, V.str.injEq, true_and, and_true, decide_eq_true_eq, List.cons.injEq, exists_eq_left, Bool.false_eq_true, if_false, if_true, ite_true, ite_false, Bool.not_eq_true', decide_eq_false_iff_not, Bool.not_not]
    refine ⟨g, n, k, rfl, hG, by omega, hn1, by omega, fun r H2 hr0 hr1 G2 K2 => ?_⟩
    refine ⟨_, rfl, by omega, by omega, ?_⟩
    refine forW_range (InvDrawn5 g D n k H) ⟨2, none, rfl, by decide, by decide, G2, K2⟩ ?_ ?_
    · rintro i σ' H3 hi ⟨b, t, rfl, hb0, hb1, G3, K3⟩
      simp only [cxK, wipe, tYes, List.map_cons, List.map_nil, rIxL, rSum, tSl, rSlL, tNoPart, tPart, exists_and_left, and_assoc, V.ref.injEq, HO.lst.injEq, HO.tup.injEq, tFor_eq, iRng1, iRng2, iList, iTup, tLc_eq, tLst, tTup, gSub, rSetL, gT, gL, gTup, gCons, gNil, atI_0, atI_1, atI_2, atI_3, List.length_cons, List.length_nil, Nat.zero_add, Nat.reduceAdd, Nat.reduceLeDiff, ixN_30, ixN_31, ixN_32, Int.reduceLT, Int.reduceLE, Int.reduceNeg, upd_same, reduceCtorEq, false_and, exists_false, or_false, false_or, tSeq, tNext, tIfS, tRet, tRetN, tDrop, tAsg, gName, tPar, tPar3, tAug, ipI, tVar, tC, tOp, tUn, tCB, tD, tDK, tCons, tNil, rI, rI0, rU, tB, tTest, tCallS, tErr, tAnd, tOr, tNot, tAndV, tOrV, tNotV, tIf, rEq, rNe, scal_ii, scal_bb, scal_ss, rGcd_eq, tBits, List.set_cons_zero, List.set_cons_succ, List.getElem?_cons_zero, List.getElem?_cons_succ, Option.some.injEq, exists_eq_left', V.int.injEq, V.bl.injEq, V.str.injEq, true_and, and_true, decide_eq_true_eq, List.cons.injEq, exists_eq_left, Bool.false_eq_true, if_false, if_true, ite_true, ite_false, Bool.not_eq_true', decide_eq_false_iff_not, Bool.not_not]
      refine ⟨cml (by decide) (by decide), 10 * b, _, rfl, by omega, ?_, G3, K3⟩
      rw [Int.pow_succ]
      omega
    · rintro σ' H3 ⟨b, t, rfl, hb0, hb1, G3, K3⟩
      have hb2 : b ≤ 2 * 10 ^ 40 := by
        have h1 : (10 : Int) ^ r.toNat ≤ 10 ^ 40 := by
          have := Nat.pow_le_pow_right (show 0 < 10 by decide) (show r.toNat ≤ 40 by omega)
          have e : ((10 ^ r.toNat : Nat) : Int) ≤ ((10 ^ 40 : Nat) : Int) := Int.ofNat_le.mpr this
          simpa using e
        omega
      simp only [cxK, wipe, tYes, List.map_cons, List.map_nil, rIxL, rSum, tSl, rSlL, tNoPart, tPart, exists_and_left, and_assoc, V.ref.injEq, HO.lst.injEq, HO.tup.injEq, tFor_eq, iRng1, iRng2, iList, iTup, tLc_eq, tLst, tTup, gSub, rSetL, gT, gL, gTup, gCons, gNil, atI_0, atI_1, atI_2, atI_3, List.length_cons, List.length_nil, Nat.zero_add, Nat.reduceAdd, Nat.reduceLeDiff, ixN_30, ixN_31, ixN_32, Int.reduceLT, Int.reduceLE, Int.reduceNeg, upd_same, reduceCtorEq, false_and, exists_false, or_false, false_or, tSeq, tNext, tIfS, tRet, tRetN, tDrop, tAsg, gName, tPar, tPar3, tAug, ipI, tVar, tC, tOp, tUn, tCB, tD, tDK, tCons, tNil, rI, rI0, rU, tB, tTest, tCallS, tErr, tAnd, tOr, tNot, tAndV, tOrV, tNotV, tIf, rEq, rNe, scal_ii, scal_bb, scal_ss, rGcd_eq, tBits, List.set_cons_zero, List.set_cons_succ, List.getElem?_cons_zero, List.getElem?_cons_succ, Option.some.injEq, exists_eq_left', V.int.injEq, V.bl.injEq, V.str.injEq, true_and, and_true, decide_eq_true_eq, List.cons.injEq, exists_eq_left, Bool.false_eq_true, if_false, if_true, ite_true, ite_false, Bool.not_eq_true', decide_eq_false_iff_not, Bool.not_not]
      refine ⟨cml (by decide) (by decide), g, _, k + 20, rfl, G3, by omega, by omega, by omega, fun r1 H4 p0 p1 G4 K4 => ?_⟩
      simp only [cxK, wipe, tYes, List.map_cons, List.map_nil, rIxL, rSum, tSl, rSlL, tNoPart, tPart, exists_and_left, and_assoc, V.ref.injEq, HO.lst.injEq, HO.tup.injEq, tFor_eq, iRng1, iRng2, iList, iTup, tLc_eq, tLst, tTup, gSub, rSetL, gT, gL, gTup, gCons, gNil, atI_0, atI_1, atI_2, atI_3, List.length_cons, List.length_nil, Nat.zero_add, Nat.reduceAdd, Nat.reduceLeDiff, ixN_30, ixN_31, ixN_32, Int.reduceLT, Int.reduceLE, Int.reduceNeg, upd_same, reduceCtorEq, false_and, exists_false, or_false, false_or, tSeq, tNext, tIfS, tRet, tRetN, tDrop, tAsg, gName, tPar, tPar3, tAug, ipI, tVar, tC, tOp, tUn, tCB, tD, tDK, tCons, tNil, rI, rI0, rU, tB, tTest, tCallS, tErr, tAnd, tOr, tNot, tAndV, tOrV, tNotV, tIf, rEq, rNe, scal_ii, scal_bb, scal_ss, rGcd_eq, tBits, List.set_cons_zero, List.set_cons_succ, List.getElem?_cons_zero, List.getElem?_cons_succ, Option.some.injEq, exists_eq_left', V.int.injEq, V.bl.injEq, V.str.injEq, true_and, and_true, decide_eq_true_eq, List.cons.injEq, exists_eq_left, Bool.false_eq_true, if_false, if_true, ite_true, ite_false, Bool.not_eq_true', decide_eq_false_iff_not, Bool.not_not]
      refine ⟨cml (by decide) (by decide), g, _, k + 40, rfl, G4, by omega, by omega, by omega, fun r2 H5 p2 p3 G5 K5 => ?_⟩
      simp only [cxK, wipe, tYes, List.map_cons, List.map_nil, rIxL, rSum, tSl, rSlL, tNoPart, tPart, exists_and_left, and_assoc, V.ref.injEq, HO.lst.injEq, HO.tup.injEq, tFor_eq, iRng1, iRng2, iList, iTup, tLc_eq, tLst, tTup, gSub, rSetL, gT, gL, gTup, gCons, gNil, atI_0, atI_1, atI_2, atI_3, List.length_cons, List.length_nil, Nat.zero_add, Nat.reduceAdd, Nat.reduceLeDiff, ixN_30, ixN_31, ixN_32, Int.reduceLT, Int.reduceLE, Int.reduceNeg, upd_same, reduceCtorEq, false_and, exists_false, or_false, false_or, tSeq, tNext, tIfS, tRet, tRetN, tDrop, tAsg, gName, tPar, tPar3, tAug, ipI, tVar, tC, tOp, tUn, tCB, tD, tDK, tCons, tNil, rI, rI0, rU, tB, tTest, tCallS, tErr, tAnd, tOr, tNot, tAndV, tOrV, tNotV, tIf, rEq, rNe, scal_ii, scal_bb, scal_ss, rGcd_eq, tBits, List.set_cons_zero, List.set_cons_succ, List.getElem?_cons_zero, List.getElem?_cons_succ, Option.some.injEq, exists_eq_left', V.int.injEq, V.bl.injEq, V.str.injEq, true_and, and_true, decide_eq_true_eq, List.cons.injEq, exists_eq_left, Bool.false_eq_true, if_false, if_true, ite_true, ite_false, Bool.not_eq_true', decide_eq_false_iff_not, Bool.not_not]
      refine ⟨g, _, k + 60, rfl, G5, by omega, by omega, by omega, fun r3 H6 p4 p5 G6 K6 => ?_⟩
      simp only [cxK, wipe, tYes, List.map_cons, List.map_nil, rIxL, rSum, tSl, rSlL, tNoPart, tPart, exists_and_left, and_assoc, V.ref.injEq, HO.lst.injEq, HO.tup.injEq, tFor_eq, iRng1, iRng2, iList, iTup, tLc_eq, tLst, tTup, gSub, rSetL, gT, gL, gTup, gCons, gNil, atI_0, atI_1, atI_2, atI_3, List.length_cons, List.length_nil, Nat.zero_add, Nat.reduceAdd, Nat.reduceLeDiff, ixN_30, ixN_31, ixN_32, Int.reduceLT, Int.reduceLE, Int.reduceNeg, upd_same, reduceCtorEq, false_and, exists_false, or_false, false_or, tSeq, tNext, tIfS, tRet, tRetN, tDrop, tAsg, gName, tPar, tPar3, tAug, ipI, tVar, tC, tOp, tUn, tCB, tD, tDK, tCons, tNil, rI, rI0, rU, tB, tTest, tCallS, tErr, tAnd, tOr, tNot, tAndV, tOrV, tNotV, tIf, rEq, rNe, scal_ii, scal_bb, scal_ss, rGcd_eq, tBits, List.set_cons_zero, List.set_cons_succ, List.getElem?_cons_zero, List.getElem?_cons_succ, Option.some.injEq, exists_eq_left', V.int.injEq, V.bl.injEq, V.str.injEq, true_and, and_true, decide_eq_true_eq, List.cons.injEq, exists_eq_left, Bool.false_eq_true, if_false, if_true, ite_true, ite_false, Bool.not_eq_true', decide_eq_false_iff_not, Bool.not_not]
      refine ⟨D, _, _, _, rfl, h0, by omega, by omega, by omega, by omega, by omega, fun p H7 np s7 e7 => ?_⟩
      have KK := ((K3.trans K4).trans K5).trans K6
      have hpg : p ≠ g := fun z => by
        obtain ⟨_, _, _, e, _⟩ := G6
        rw [z, e] at np
        cases np
      exact kk _ _ _ p H7 (by omega) (by omega) (by omega) (by omega) (KK.free hpg np) e7 ((G6.same s7).mono (by omega)) (KK.trans (Keep.of s7))

theorem okLawTold {f : Addr} {fd : FuncData} (F : Fun K "_law_told" "_law_told" s_LawTold f fd) (T : Txt K mg) {C_InvalidMeasure f_InvalidMeasure : Addr} {fd_InvalidMeasure : FuncData} (E_InvalidMeasure : ErrN P w K mg base "InvalidMeasure" C_InvalidMeasure f_InvalidMeasure fd_InvalidMeasure) {C_InvalidRoot f_InvalidRoot : Addr} {fd_InvalidRoot : FuncData} (E_InvalidRoot : ErrN P w K mg base "InvalidRoot" C_InvalidRoot f_InvalidRoot fd_InvalidRoot) {C_InvalidNumber f_InvalidNumber : Addr} {fd_InvalidNumber : FuncData} (E_InvalidNumber : ErrN P w K mg base "InvalidNumber" C_InvalidNumber f_InvalidNumber fd_InvalidNumber) {C_SheetError : Addr} (E_SheetError : ErrP K mg "SheetError" C_SheetError [.type "ValueError", .type "Exception", .type "BaseException", .type "object"] "ValueError" "ValueError.__new__" "ValueError.__init__") {fxLawAsked : Addr} {fdxLawAsked : FuncData} (X_LawAsked : DefX P w K mg base 6 "_law_asked" fxLawAsked fdxLawAsked ["_law_door", "_law_given"] (spAskedX C_InvalidMeasure C_InvalidRoot C_InvalidNumber)) (KT : Kit3 K C_InvalidMeasure C_InvalidRoot C_InvalidNumber C_SheetError) : FnOk P w K mg base CX0 7 f fd ["_law_door", "_law_given"] (spTold5 C_InvalidMeasure C_InvalidRoot C_InvalidNumber) := by
  refine F.ok scLawTold (fun vs H Q E h => ?_) (fun cdv A outer s H vs Q E hr h => ?_)
  · obtain ⟨k, q, g, rfl, _⟩ := h
    rfl
  · obtain ⟨k, q, g, rfl, hk, hq, hG, kk⟩ := h
    refine ⟨_, (pss_cons (ps_set (i := 2) scLawTold.nd rfl (Or.inl rfl) pe_non)
        (pss_cons (ps_try_keep rfl rfl scLawTold.nd (i := 3) rfl rfl ⟨rfl, by decide, .inl E_SheetError.m⟩ takes0 (fun W pn xe tk _ => (pss_one (ps_expr (pe_dS X_LawAsked tk hr (pa_cons (pv 0) (pa_cons (pv 1) pa_nil)))))) (fun a cls d pn => (pss_one (ps_set (i := 2) scLawTold.nd rfl (Or.inl rfl) (pv 3)))))
        (pss_cons (ps_if (pt_cmpR op_isN (pv 2) pe_non (nomark _)) (pss_one (ps_ret (pe_lstB (pa_cons pe_str pa_nil)))) pss_nil)
        (pss_cons (ps_set (i := 4) scLawTold.nd rfl (Or.inl rfl) (pe_lst (pa_cons (pe_callB call_isK (by rfl) T.isinstance (by decide +kernel) (pa_cons (pv 2) (pa_cons (pe_glob (v := .ref C_InvalidMeasure) rfl E_InvalidMeasure.m rfl) pa_nil))) (pa_cons (pe_callB call_isK (by rfl) T.isinstance (by decide +kernel) (pa_cons (pv 2) (pa_cons (pe_glob (v := .ref C_InvalidRoot) rfl E_InvalidRoot.m rfl) pa_nil))) (pa_cons (pe_callB call_isK (by rfl) T.isinstance (by decide +kernel) (pa_cons (pv 2) (pa_cons (pe_glob (v := .ref C_InvalidNumber) rfl E_InvalidNumber.m rfl) pa_nil))) pa_nil)))))
        (pss_cons (ps_if (PW.pt (pw_or (pt_cmpR (op_neD hr.units) (pe_bm PySem.F.plainAttrs_list PySem.F.slot_list_count PySem.F.type_list_count mt_countF (pv 4) (pa_cons pe_bl pa_nil)) pe_int (nomark _)) (pw_or1 (pt_not (pt_val (pe_callB call_isK (by rfl) T.isinstance (by decide +kernel) (pa_cons (pv 2) (pa_cons (pe_bltn (v := .ty "ValueError") (u := .type "ValueError") (by rfl) T.ValueError (by decide +kernel) rfl) pa_nil)))))))) (pss_one (ps_ret (pe_lst (pa_cons pe_str pa_nil)))) pss_nil)
        (pss_one (ps_ret (pe_lstB (pa_cons (pe_ix ixL (pe_lst (pa_cons pe_str (pa_cons pe_str (pa_cons pe_str pa_nil)))) (pe_bm PySem.F.plainAttrs_list PySem.F.slot_list_index PySem.F.type_list_index mt_index (pv 4) (pa_cons pe_bl pa_nil)) (fun _ _ => rfl)) (pa_cons (pe_xk (pv 2)) pa_nil)))))))))), ?_⟩
    have e0 : start N_LawTold [.int k, .ref q] = [some (.int k), some (.ref q), none, none, none] := rfl
    rw [e0]
    try (simp only [cxK, wipe, tYes, List.map_cons, List.map_nil, rIxL, rSum, tSl, rSlL, tNoPart, tPart, exists_and_left, and_assoc, V.ref.injEq, HO.lst.injEq, HO.tup.injEq, tFor_eq, iRng1, iRng2, iList, iTup, tLc_eq, tLst, tTup, gSub, rSetL, gT, gL, gTup, gCons, gNil, atI_0, atI_1, atI_2, atI_3, List.length_cons, List.length_nil, Nat.zero_add, Nat.reduceAdd, Nat.reduceLeDiff, ixN_30, ixN_31, ixN_32, Int.reduceLT, Int.reduceLE, Int.reduceNeg, upd_same, reduceCtorEq, false_and, exists_false, or_false, false_or, tNext, tIfS, tRet, tRetN, tDrop, tAsg, gName, tPar, tPar3, tAug, ipI, tVar, tC, tOp, tUn, tCB, tD, tDK, tCons, tNil, rI, rI0, rU, tB, tTest, tCallS, tErr, tAnd, tOr, tNot, tAndV, tOrV, tNotV, tIf, rEq, rNe, scal_ii, scal_bb, scal_ss, rGcd_eq, tBits, List.set_cons_zero, List.set_cons_succ, List.getElem?_cons_zero, List.getElem?_cons_succ, Option.some.injEq, exists_eq_left', V.int.injEq, V.bl.injEq, V.str.injEq, true_and, and_true, decide_eq_true_eq, List.cons.injEq, exists_eq_left, Bool.false_eq_true, if_false, if_true, ite_true, ite_false, Bool.not_eq_true', decide_eq_false_iff_not, Bool.not_not])
    refine seq_gen fun C1 hC1 => ?_
    simp only [cxK, wipe, tYes, List.map_cons, List.map_nil, rIxL, rSum, tSl, rSlL, tNoPart, tPart, exists_and_left, and_assoc, V.ref.injEq, HO.lst.injEq, HO.tup.injEq, tFor_eq, iRng1, iRng2, iList, iTup, tLc_eq, tLst, tTup, gSub, rSetL, gT, gL, gTup, gCons, gNil, atI_0, atI_1, atI_2, atI_3, List.length_cons, List.length_nil, Nat.zero_add, Nat.reduceAdd, Nat.reduceLeDiff, ixN_30, ixN_31, ixN_32, Int.reduceLT, Int.reduceLE, Int.reduceNeg, upd_same, reduceCtorEq, false_and, exists_false, or_false, false_or, tNext, tIfS, tRet, tRetN, tDrop, tAsg, gName, tPar, tPar3, tAug, ipI, tVar, tC, tOp, tUn, tCB, tD, tDK, tCons, tNil, rI, rI0, rU, tB, tTest, tCallS, tErr, tAnd, tOr, tNot, tAndV, tOrV, tNotV, tIf, rEq, rNe, scal_ii, scal_bb, scal_ss, rGcd_eq, tBits, List.set_cons_zero, List.set_cons_succ, List.getElem?_cons_zero, List.getElem?_cons_succ, Option.some.injEq, exists_eq_left', V.int.injEq, V.bl.injEq, V.str.injEq, true_and, and_true, decide_eq_true_eq, List.cons.injEq, exists_eq_left, Bool.false_eq_true, if_false, if_true, ite_true, ite_false, Bool.not_eq_true', decide_eq_false_iff_not, Bool.not_not]
    refine Eq.mpr (hC1 _ _) ?_
    refine seq_gen fun C2 hC2 => ?_
    try (simp only [cxK, wipe, tYes, List.map_cons, List.map_nil, rIxL, rSum, tSl, rSlL, tNoPart, tPart, exists_and_left, and_assoc, V.ref.injEq, HO.lst.injEq, HO.tup.injEq, tFor_eq, iRng1, iRng2, iList, iTup, tLc_eq, tLst, tTup, gSub, rSetL, gT, gL, gTup, gCons, gNil, atI_0, atI_1, atI_2, atI_3, List.length_cons, List.length_nil, Nat.zero_add, Nat.reduceAdd, Nat.reduceLeDiff, ixN_30, ixN_31, ixN_32, Int.reduceLT, Int.reduceLE, Int.reduceNeg, upd_same, reduceCtorEq, false_and, exists_false, or_false, false_or, tNext, tIfS, tRet, tRetN, tDrop, tAsg, gName, tPar, tPar3, tAug, ipI, tVar, tC, tOp, tUn, tCB, tD, tDK, tCons, tNil, rI, rI0, rU, tB, tTest, tCallS, tErr, tAnd, tOr, tNot, tAndV, tOrV, tNotV, tIf, rEq, rNe, scal_ii, scal_bb, scal_ss, rGcd_eq, tBits, List.set_cons_zero, List.set_cons_succ, List.getElem?_cons_zero, List.getElem?_cons_succ, Option.some.injEq, exists_eq_left', V.int.injEq, V.bl.injEq, V.str.injEq, true_and, and_true, decide_eq_true_eq, List.cons.injEq, exists_eq_left, Bool.false_eq_true, if_false, if_true, ite_true, ite_false, Bool.not_eq_true', decide_eq_false_iff_not, Bool.not_not])
    refine ⟨k, q, g, rfl, hk, hq, hG, ?_⟩
    have hin := ocAsked_in (CM := C_InvalidMeasure) (CR := C_InvalidRoot) (CN := C_InvalidNumber) (H := H) (k := k) (g := g)
    generalize ocAsked C_InvalidMeasure C_InvalidRoot C_InvalidNumber H k g = oc at *
    cases oc with
    | ok =>
      refine fun r H1 s1 => ?_
      refine Eq.mpr (hC2 _ _) ?_
      refine seq_gen fun C3 hC3 => ?_
      simp only [cxK, wipe, tYes, List.map_cons, List.map_nil, rIxL, rSum, tSl, rSlL, tNoPart, tPart, exists_and_left, and_assoc, V.ref.injEq, HO.lst.injEq, HO.tup.injEq, tFor_eq, iRng1, iRng2, iList, iTup, tLc_eq, tLst, tTup, gSub, rSetL, gT, gL, gTup, gCons, gNil, atI_0, atI_1, atI_2, atI_3, List.length_cons, List.length_nil, Nat.zero_add, Nat.reduceAdd, Nat.reduceLeDiff, ixN_30, ixN_31, ixN_32, Int.reduceLT, Int.reduceLE, Int.reduceNeg, upd_same, reduceCtorEq, false_and, exists_false, or_false, false_or, tNext, tIfS, tRet, tRetN, tDrop, tAsg, gName, tPar, tPar3, tAug, ipI, tVar, tC, tOp, tUn, tCB, tD, tDK, tCons, tNil, rI, rI0, rU, tB, tTest, tCallS, tErr, tAnd, tOr, tNot, tAndV, tOrV, tNotV, tIf, rEq, rNe, scal_ii, scal_bb, scal_ss, rGcd_eq, tBits, List.set_cons_zero, List.set_cons_succ, List.getElem?_cons_zero, List.getElem?_cons_succ, Option.some.injEq, exists_eq_left', V.int.injEq, V.bl.injEq, V.str.injEq, true_and, and_true, decide_eq_true_eq, List.cons.injEq, exists_eq_left, Bool.false_eq_true, if_false, if_true, ite_true, ite_false, Bool.not_eq_true', decide_eq_false_iff_not, Bool.not_not, tLstB]
      refine ⟨by decide, fun L nL nsL => ?_⟩
      exact kk L _ nsL (s1.trans (Same.upd nL)) upd_same
    | err C v =>
      refine fun d H1 s1 ed => ?_
      have hC : C ∈ [C_InvalidMeasure, C_InvalidRoot, C_InvalidNumber] := hin
      refine ⟨true, KT.ex C hC, fun _ a na => ?_, fun h => Bool.noConfusion h⟩
      have s2 : Same H1 (upd H1 a (ExK (.ref C) (some d) a)) := Same.upd na
      have ea : (upd H1 a (ExK (.ref C) (some d) a)) a = some (ExK (.ref C) (some d) a) := upd_same
      have ed2 := s2 _ _ ed
      generalize upd H1 a (ExK (.ref C) (some d) a) = H2 at *
      simp only [cxK, wipe, tYes, List.map_cons, List.map_nil, rIxL, rSum, tSl, rSlL, tNoPart, tPart, exists_and_left, and_assoc, V.ref.injEq, HO.lst.injEq, HO.tup.injEq, tFor_eq, iRng1, iRng2, iList, iTup, tLc_eq, tLst, tTup, gSub, rSetL, gT, gL, gTup, gCons, gNil, atI_0, atI_1, atI_2, atI_3, List.length_cons, List.length_nil, Nat.zero_add, Nat.reduceAdd, Nat.reduceLeDiff, ixN_30, ixN_31, ixN_32, Int.reduceLT, Int.reduceLE, Int.reduceNeg, upd_same, reduceCtorEq, false_and, exists_false, or_false, false_or, tNext, tIfS, tRet, tRetN, tDrop, tAsg, gName, tPar, tPar3, tAug, ipI, tVar, tC, tOp, tUn, tCB, tD, tDK, tCons, tNil, rI, rI0, rU, tB, tTest, tCallS, tErr, tAnd, tOr, tNot, tAndV, tOrV, tNotV, tIf, rEq, rNe, scal_ii, scal_bb, scal_ss, rGcd_eq, tBits, List.set_cons_zero, List.set_cons_succ, List.getElem?_cons_zero, List.getElem?_cons_succ, Option.some.injEq, exists_eq_left', V.int.injEq, V.bl.injEq, V.str.injEq, true_and, and_true, decide_eq_true_eq, List.cons.injEq, exists_eq_left, Bool.false_eq_true, if_false, if_true, ite_true, ite_false, Bool.not_eq_true', decide_eq_false_iff_not, Bool.not_not]
      refine Eq.mpr (hC2 _ _) ?_
      refine seq_gen fun C3 hC3 => ?_
      simp only [cxK, wipe, tYes, List.map_cons, List.map_nil, rIxL, rSum, tSl, rSlL, tNoPart, tPart, exists_and_left, and_assoc, V.ref.injEq, HO.lst.injEq, HO.tup.injEq, tFor_eq, iRng1, iRng2, iList, iTup, tLc_eq, tLst, tTup, gSub, rSetL, gT, gL, gTup, gCons, gNil, atI_0, atI_1, atI_2, atI_3, List.length_cons, List.length_nil, Nat.zero_add, Nat.reduceAdd, Nat.reduceLeDiff, ixN_30, ixN_31, ixN_32, Int.reduceLT, Int.reduceLE, Int.reduceNeg, upd_same, reduceCtorEq, false_and, exists_false, or_false, false_or, tNext, tIfS, tRet, tRetN, tDrop, tAsg, gName, tPar, tPar3, tAug, ipI, tVar, tC, tOp, tUn, tCB, tD, tDK, tCons, tNil, rI, rI0, rU, tB, tTest, tCallS, tErr, tAnd, tOr, tNot, tAndV, tOrV, tNotV, tIf, rEq, rNe, scal_ii, scal_bb, scal_ss, rGcd_eq, tBits, List.set_cons_zero, List.set_cons_succ, List.getElem?_cons_zero, List.getElem?_cons_succ, Option.some.injEq, exists_eq_left', V.int.injEq, V.bl.injEq, V.str.injEq, true_and, and_true, decide_eq_true_eq, List.cons.injEq, exists_eq_left, Bool.false_eq_true, if_false, if_true, ite_true, ite_false, Bool.not_eq_true', decide_eq_false_iff_not, Bool.not_not]
      refine Eq.mpr (hC3 _ _) ?_
      refine seq_gen fun C4 hC4 => ?_
      simp only [cxK, wipe, tYes, List.map_cons, List.map_nil, rIxL, rSum, tSl, rSlL, tNoPart, tPart, exists_and_left, and_assoc, V.ref.injEq, HO.lst.injEq, HO.tup.injEq, tFor_eq, iRng1, iRng2, iList, iTup, tLc_eq, tLst, tTup, gSub, rSetL, gT, gL, gTup, gCons, gNil, atI_0, atI_1, atI_2, atI_3, List.length_cons, List.length_nil, Nat.zero_add, Nat.reduceAdd, Nat.reduceLeDiff, ixN_30, ixN_31, ixN_32, Int.reduceLT, Int.reduceLE, Int.reduceNeg, upd_same, reduceCtorEq, false_and, exists_false, or_false, false_or, tNext, tIfS, tRet, tRetN, tDrop, tAsg, gName, tPar, tPar3, tAug, ipI, tVar, tC, tOp, tUn, tCB, tD, tDK, tCons, tNil, rI, rI0, rU, tB, tTest, tCallS, tErr, tAnd, tOr, tNot, tAndV, tOrV, tNotV, tIf, rEq, rNe, scal_ii, scal_bb, scal_ss, rGcd_eq, tBits, List.set_cons_zero, List.set_cons_succ, List.getElem?_cons_zero, List.getElem?_cons_succ, Option.some.injEq, exists_eq_left', V.int.injEq, V.bl.injEq, V.str.injEq, true_and, and_true, decide_eq_true_eq, List.cons.injEq, exists_eq_left, Bool.false_eq_true, if_false, if_true, ite_true, ite_false, Bool.not_eq_true', decide_eq_false_iff_not, Bool.not_not]
      obtain ⟨i, hi, hCi⟩ : ∃ i : Nat, i < 3 ∧ [C_InvalidMeasure, C_InvalidRoot, C_InvalidNumber][i]? = some C := by
        simp only [List.mem_cons, List.not_mem_nil, or_false] at hC
        rcases hC with rfl | rfl | rfl
        · exact ⟨0, by decide, rfl⟩
        · exact ⟨1, by decide, rfl⟩
        · exact ⟨2, by decide, rfl⟩
      have hX := KT.ec C hC
      refine isKe ea ed2 hX (fun _ h => h) (KT.kit i 0 C _ hCi rfl) ?_
      refine isKe ea ed2 hX (fun _ h => h) (KT.kit i 1 C _ hCi rfl) ?_
      refine isKe ea ed2 hX (fun _ h => h) (KT.kit i 2 C _ hCi rfl) ?_
      refine ⟨by decide, fun L nL => ?_⟩
      have s3 : Same H2 (upd H2 L (.lst [.bl (decide (0 = i)), .bl (decide (1 = i)), .bl (decide (2 = i))])) := Same.upd nL
      have eL : (upd H2 L (.lst [.bl (decide (0 = i)), .bl (decide (1 = i)), .bl (decide (2 = i))])) L = some (.lst [.bl (decide (0 = i)), .bl (decide (1 = i)), .bl (decide (2 = i))]) := upd_same
      generalize upd H2 L (.lst [.bl (decide (0 = i)), .bl (decide (1 = i)), .bl (decide (2 = i))]) = H3 at *
      refine Eq.mpr (hC4 _ _) ?_
      refine seq_gen fun C5 hC5 => ?_
      simp only [cxK, wipe, tYes, List.map_cons, List.map_nil, rIxL, rSum, tSl, rSlL, tNoPart, tPart, exists_and_left, and_assoc, V.ref.injEq, HO.lst.injEq, HO.tup.injEq, tFor_eq, iRng1, iRng2, iList, iTup, tLc_eq, tLst, tTup, gSub, rSetL, gT, gL, gTup, gCons, gNil, atI_0, atI_1, atI_2, atI_3, List.length_cons, List.length_nil, Nat.zero_add, Nat.reduceAdd, Nat.reduceLeDiff, ixN_30, ixN_31, ixN_32, Int.reduceLT, Int.reduceLE, Int.reduceNeg, upd_same, reduceCtorEq, false_and, exists_false, or_false, false_or, tNext, tIfS, tRet, tRetN, tDrop, tAsg, gName, tPar, tPar3, tAug, ipI, tVar, tC, tOp, tUn, tCB, tD, tDK, tCons, tNil, rI, rI0, rU, tB, tTest, tCallS, tErr, tAnd, tOr, tNot, tAndV, tOrV, tNotV, tIf, rEq, rNe, scal_ii, scal_bb, scal_ss, rGcd_eq, tBits, List.set_cons_zero, List.set_cons_succ, List.getElem?_cons_zero, List.getElem?_cons_succ, Option.some.injEq, exists_eq_left', V.int.injEq, V.bl.injEq, V.str.injEq, true_and, and_true, decide_eq_true_eq, List.cons.injEq, exists_eq_left, Bool.false_eq_true, if_false, if_true, ite_true, ite_false, Bool.not_eq_true', decide_eq_false_iff_not, Bool.not_not, tBM]
      have hcnt : ((([V.bl (decide (0 = i)), V.bl (decide (1 = i)), V.bl (decide (2 = i))].countP (fun z => eqV z (.bl true)) : Nat)) : Int) = 1 := by
        rcases (show i = 0 ∨ i = 1 ∨ i = 2 by omega) with rfl | rfl | rfl <;> decide
      refine ⟨.inl ⟨rfl, _, SqL.of eL⟩, L, _, _, rfl, rfl, SqL.of eL, rfl, rfl, ?_⟩
      rw [hcnt]
      refine ⟨.int 1, .int 1, .int 1, .int 1, rfl, rfl, false, rfl, ?_⟩
      rw [if_neg (by decide)]
      refine isKe (s3 _ _ ea) (s3 _ _ ed2) hX (fun _ h => h) (KT.kv C hC) ⟨true, rfl, ?_⟩
      rw [if_neg (by decide)]
      refine Eq.mpr (hC5 _ _) ?_
      simp only [cxK, wipe, tYes, List.map_cons, List.map_nil, rIxL, rSum, tSl, rSlL, tNoPart, tPart, exists_and_left, and_assoc, V.ref.injEq, HO.lst.injEq, HO.tup.injEq, tFor_eq, iRng1, iRng2, iList, iTup, tLc_eq, tLst, tTup, gSub, rSetL, gT, gL, gTup, gCons, gNil, atI_0, atI_1, atI_2, atI_3, List.length_cons, List.length_nil, Nat.zero_add, Nat.reduceAdd, Nat.reduceLeDiff, ixN_30, ixN_31, ixN_32, Int.reduceLT, Int.reduceLE, Int.reduceNeg, upd_same, reduceCtorEq, false_and, exists_false, or_false, false_or, tSeq, tNext, tIfS, tRet, tRetN, tDrop, tAsg, gName, tPar, tPar3, tAug, ipI, tVar, tC, tOp, tUn, tCB, tD, tDK, tCons, tNil, rI, rI0, rU, tB, tTest, tCallS, tErr, tAnd, tOr, tNot, tAndV, tOrV, tNotV, tIf, rEq, rNe, scal_ii, scal_bb, scal_ss, rGcd_eq, tBits, List.set_cons_zero, List.set_cons_succ, List.getElem?_cons_zero, List.getElem?_cons_succ, Option.some.injEq, exists_eq_left', V.int.injEq, V.bl.injEq, V.str.injEq, true_and, and_true, decide_eq_true_eq, List.cons.injEq, exists_eq_left, Bool.false_eq_true, if_false, if_true, ite_true, ite_false, Bool.not_eq_true', decide_eq_false_iff_not, Bool.not_not, tBM, tXk, tLstB]
      refine ⟨by decide, fun p np => ?_⟩
      have s4 : Same H3 (upd H3 p (.lst [.str (Str.ofString "measure"), .str (Str.ofString "root"), .str (Str.ofString "number")])) := Same.upd np
      have e4 : (upd H3 p (.lst [.str (Str.ofString "measure"), .str (Str.ofString "root"), .str (Str.ofString "number")])) p = some (.lst [.str (Str.ofString "measure"), .str (Str.ofString "root"), .str (Str.ofString "number")]) := upd_same
      generalize upd H3 p (.lst [.str (Str.ofString "measure"), .str (Str.ofString "root"), .str (Str.ofString "number")]) = H4 at *
      have eL4 := s4 _ _ eL
      have ea4 := s4 _ _ (s3 _ _ ea)
      have ed4 := s4 _ _ (s3 _ _ ed2)
      have sAll : Same H H4 := ((s1.trans s2).trans s3).trans s4
      have ne01 : C_InvalidRoot ≠ C_InvalidMeasure := fun h => by
        have h1 := KT.kit 1 0 _ _ rfl rfl
        have h2 := KT.kit 0 0 _ _ rfl rfl
        rw [h, h2] at h1
        exact absurd h1 (by decide)
      have ne02 : C_InvalidNumber ≠ C_InvalidMeasure := fun h => by
        have h1 := KT.kit 2 0 _ _ rfl rfl
        have h2 := KT.kit 0 0 _ _ rfl rfl
        rw [h, h2] at h1
        exact absurd h1 (by decide)
      have ne12 : C_InvalidNumber ≠ C_InvalidRoot := fun h => by
        have h1 := KT.kit 2 1 _ _ rfl rfl
        have h2 := KT.kit 1 1 _ _ rfl rfl
        rw [h, h2] at h1
        exact absurd h1 (by decide)
      rcases (show i = 0 ∨ i = 1 ∨ i = 2 by omega) with rfl | rfl | rfl
      · obtain rfl : C_InvalidMeasure = C := Option.some.inj hCi
        have hno : ∀ (m : Nat) (z : V), m < 0 → [V.bl (decide (0 = 0)), V.bl (decide (1 = 0)), V.bl (decide (2 = 0))][m]? = some z → eqV z (.bl true) = false := fun m z hm _ => absurd hm (Nat.not_lt_zero _)
        refine ⟨.inl ⟨rfl, _, SqL.of eL4⟩, L, _, _, 0, .bl true, rfl, rfl, SqL.of eL4, rfl, rfl, rfl, rfl, hno, ?_⟩
        refine ⟨_, _, rfl, e4, _, atI_nat (j := 0) rfl, C_InvalidMeasure, d, ea4, KT.xf _ hC, KT.nv _ hC, _, ed4, v, look1, by decide, fun p2 np2 nsp => kk p2 _ nsp (sAll.trans (Same.upd np2)) ?_⟩
        rw [upd_same]
        simp [toldL, ne01, ne02, ne12]
      · obtain rfl : C_InvalidRoot = C := Option.some.inj hCi
        have hno : ∀ (m : Nat) (z : V), m < 1 → [V.bl (decide (0 = 1)), V.bl (decide (1 = 1)), V.bl (decide (2 = 1))][m]? = some z → eqV z (.bl true) = false := fun m z hm hz => by
          obtain rfl : m = 0 := by omega
          cases hz
          rfl
        refine ⟨.inl ⟨rfl, _, SqL.of eL4⟩, L, _, _, 1, .bl true, rfl, rfl, SqL.of eL4, rfl, rfl, rfl, rfl, hno, ?_⟩
        refine ⟨_, _, rfl, e4, _, atI_nat (j := 1) rfl, C_InvalidRoot, d, ea4, KT.xf _ hC, KT.nv _ hC, _, ed4, v, look1, by decide, fun p2 np2 nsp => kk p2 _ nsp (sAll.trans (Same.upd np2)) ?_⟩
        rw [upd_same]
        simp [toldL, ne01, ne02, ne12]
      · obtain rfl : C_InvalidNumber = C := Option.some.inj hCi
        have hno : ∀ (m : Nat) (z : V), m < 2 → [V.bl (decide (0 = 2)), V.bl (decide (1 = 2)), V.bl (decide (2 = 2))][m]? = some z → eqV z (.bl true) = false := fun m z hm hz => by
          rcases (show m = 0 ∨ m = 1 by omega) with rfl | rfl
          · cases hz
            rfl
          · cases hz
            rfl
        refine ⟨.inl ⟨rfl, _, SqL.of eL4⟩, L, _, _, 2, .bl true, rfl, rfl, SqL.of eL4, rfl, rfl, rfl, rfl, hno, ?_⟩
        refine ⟨_, _, rfl, e4, _, atI_nat (j := 2) rfl, C_InvalidNumber, d, ea4, KT.xf _ hC, KT.nv _ hC, _, ed4, v, look1, by decide, fun p2 np2 nsp => kk p2 _ nsp (sAll.trans (Same.upd np2)) ?_⟩
        rw [upd_same]
        simp [toldL, ne01, ne02, ne12]

def InvAR1 (dr gv : Addr) (due : Str) (odd : V) (H : Hp) : Nat → SV → Hp → Prop := fun _ σ H2 => ∃ t4 t5 t6 : Option V, σ = [some (.ref dr), some (.ref gv), some (.str due), some odd, t4, t5, t6] ∧ Same H H2
def InvAR2 (dr gv : Addr) (due : Str) (odd b : V) (H : Hp) : Nat → SV → Hp → Prop := fun _ σ H2 => ∃ t5 t6 : Option V, σ = [some (.ref dr), some (.ref gv), some (.str due), some odd, some b, t5, t6] ∧ Same H H2

theorem okLawAllRefused {f : Addr} {fd : FuncData} (F : Fun K "_law_all_refused" "_law_all_refused" s_LawAllRefused f fd) (T : Txt K mg) {fLawTold : Addr} {fdLawTold : FuncData} (D_LawTold : DefAt P w K mg base 7 "_law_told" fLawTold fdLawTold ["_law_door", "_law_given"] (spTold5 C_InvalidMeasure C_InvalidRoot C_InvalidNumber)) : FnG P w K mg base 8 f fd ["_law_doors", "_law_given", "_law_due", "_law_odd"] (spAllRefused K C_InvalidMeasure C_InvalidRoot C_InvalidNumber) := by
  refine fnG_mk F scLawAllRefused (fun vs H Q E h => ?_) (fun cdv A outer s H vs Q E gd hr h => ?_)
  · obtain ⟨dr, gv, due, odd, ks, g, d, rfl, _⟩ := h
    rfl
  · obtain ⟨dr, gv, due, odd, ks, g, d, rfl, hdr, hgv, hgl, hks, hkl, hz, hO, hall, kk⟩ := h
    refine ⟨_, (pss_cons (ps_for PassesOwn.never rfl (pi_list (pe_lst (pa_cons pe_non (pa_cons (pv 3) (pa_cons pe_int (pa_cons pe_int (pa_cons (pe_tup (pa_cons pe_int (pa_cons pe_int (pa_cons pe_int pa_nil)))) (pa_cons (pe_tup (pa_cons pe_int (pa_cons pe_int (pa_cons pe_int pa_nil)))) pa_nil)))))))) (pg_name (i := 4) scLawAllRefused.nd rfl (Or.inl rfl)) (pss_one (ps_for PassesOwn.never rfl (pi_list (pv 0)) (pg_name (i := 5) scLawAllRefused.nd rfl (Or.inl rfl)) (pss_cons (ps_set (i := 6) scLawAllRefused.nd rfl (Or.inl rfl) (pe_callB (cr_reprQ gd hr.units) (by rfl) T.repr (by decide +kernel) (pa_cons (pv 3) pa_nil)))
        (pss_one (ps_if (PW.pt (pw_or (pt_cmpR op_ne (pe_callB (cr_reprQ gd hr.units) (by rfl) T.repr (by decide +kernel) (pa_cons (pe_d D_LawTold hr (pa_cons (pv 5) (pa_cons (pe_op op_cat (pe_op op_cat (pv 1) (pe_lst (pa_cons (pv 3) pa_nil))) (pe_op op_rep (pe_lst (pa_cons (pv 4) pa_nil)) pe_int)) pa_nil))) pa_nil)) (pe_callB (cr_reprQ gd hr.units) (by rfl) T.repr (by decide +kernel) (pa_cons (pe_lstB (pa_cons (pv 2) (pa_cons (pv 3) pa_nil))) pa_nil)) (nomark _)) (pw_or1 (pt_cmpR op_ne (pe_callB (cr_reprQ gd hr.units) (by rfl) T.repr (by decide +kernel) (pa_cons (pv 3) pa_nil)) (pv 6) (nomark _))))) (pss_one (ps_ret pe_bl)) pss_nil))))))
        (pss_one (ps_ret pe_bl))), ?_⟩
    have e0 : start N_LawAllRefused [.ref dr, .ref gv, .str due, odd] = [some (.ref dr), some (.ref gv), some (.str due), some odd, none, none, none] := rfl
    rw [e0]
    simp only [cxK, wipe, tYes, List.map_cons, List.map_nil, rIxL, rSum, tSl, rSlL, tNoPart, tPart, exists_and_left, and_assoc, V.ref.injEq, HO.lst.injEq, HO.tup.injEq, tFor_eq, iRng1, iRng2, iList, iTup, tLc_eq, tLst, tTup, gSub, rSetL, gT, gL, gTup, gCons, gNil, atI_0, atI_1, atI_2, atI_3, List.length_cons, List.length_nil, Nat.zero_add, Nat.reduceAdd, Nat.reduceLeDiff, ixN_30, ixN_31, ixN_32, Int.reduceLT, Int.reduceLE, Int.reduceNeg, upd_same, reduceCtorEq, false_and, exists_false, or_false, false_or, tNext, tIfS, tRet, tRetN, tDrop, tAsg, gName, tPar, tPar3, tAug, ipI, tVar, tC, tOp, tUn, tCB, tD, tDK, tCons, tNil, rI, rI0, rU, tB, tTest, tCallS, tErr, tAnd, tOr, tNot, tAndV, tOrV, tNotV, tIf, rEq, rNe, scal_ii, scal_bb, scal_ss, rGcd_eq, tBits, List.set_cons_zero, List.set_cons_succ, List.getElem?_cons_zero, List.getElem?_cons_succ, Option.some.injEq, exists_eq_left', V.int.injEq, V.bl.injEq, V.str.injEq, true_and, and_true, decide_eq_true_eq, List.cons.injEq, exists_eq_left, Bool.false_eq_true, if_false, if_true, ite_true, ite_false, Bool.not_eq_true', decide_eq_false_iff_not, Bool.not_not]
    refine seq_gen fun C1 hC1 => ?_
    simp only [cxK, wipe, tYes, List.map_cons, List.map_nil, rIxL, rSum, tSl, rSlL, tNoPart, tPart, exists_and_left, and_assoc, V.ref.injEq, HO.lst.injEq, HO.tup.injEq, tFor_eq, iRng1, iRng2, iList, iTup, tLc_eq, tLst, tTup, gSub, rSetL, gT, gL, gTup, gCons, gNil, atI_0, atI_1, atI_2, atI_3, List.length_cons, List.length_nil, Nat.zero_add, Nat.reduceAdd, Nat.reduceLeDiff, ixN_30, ixN_31, ixN_32, Int.reduceLT, Int.reduceLE, Int.reduceNeg, upd_same, reduceCtorEq, false_and, exists_false, or_false, false_or, tNext, tIfS, tRet, tRetN, tDrop, tAsg, gName, tPar, tPar3, tAug, ipI, tVar, tC, tOp, tUn, tCB, tD, tDK, tCons, tNil, rI, rI0, rU, tB, tTest, tCallS, tErr, tAnd, tOr, tNot, tAndV, tOrV, tNotV, tIf, rEq, rNe, scal_ii, scal_bb, scal_ss, rGcd_eq, tBits, List.set_cons_zero, List.set_cons_succ, List.getElem?_cons_zero, List.getElem?_cons_succ, Option.some.injEq, exists_eq_left', V.int.injEq, V.bl.injEq, V.str.injEq, true_and, and_true, decide_eq_true_eq, List.cons.injEq, exists_eq_left, Bool.false_eq_true, if_false, if_true, ite_true, ite_false, Bool.not_eq_true', decide_eq_false_iff_not, Bool.not_not]
    refine ⟨by decide, fun q1 n1 => ⟨by decide, fun q2 n2 => ⟨by decide, fun L nL => ?_⟩⟩⟩
    obtain ⟨h3, hh⟩ : ∃ h3, h3 = upd (upd (upd H q1 (.tup [.int 0, .int 0, .int 1])) q2 (.tup [.int 1, .int 0, .int 1])) L (.lst [.non, odd, .int 0, .int 1, .ref q1, .ref q2]) := ⟨_, rfl⟩
    rw [← hh]
    have eL : h3 L = some (.lst [.non, odd, .int 0, .int 1, .ref q1, .ref q2]) := by rw [hh]; exact upd_same
    have eq2 : h3 q2 = some (.tup [.int 1, .int 0, .int 1]) := by rw [hh]; exact (Same.upd nL) _ _ upd_same
    have eq1 : h3 q1 = some (.tup [.int 0, .int 0, .int 1]) := by rw [hh]; exact (Same.upd nL) _ _ ((Same.upd n2) _ _ upd_same)
    have s3 : Same H h3 := by rw [hh]; exact ((Same.upd n1).trans (Same.upd n2)).trans (Same.upd nL)
    clear hh
    refine ⟨⟨_, SqL.of eL⟩, ?_⟩
    refine forW_list (xs := [.non, odd, .int 0, .int 1, .ref q1, .ref q2]) (InvAR1 dr gv due odd h3) ⟨none, none, none, rfl, Same.refl _⟩ (fun i σ H2 _ z => ?_) ?_ ?_
    · obtain ⟨_, _, _, _, s4⟩ := z
      exact SqL.of (s4 _ _ eL)
    · rintro i b σ' H2 hb ⟨t4, t5, t6, rfl, s4⟩
      have hB : BehOk H2 b := by
        have hm := List.mem_of_getElem? hb
        simp only [List.mem_cons, List.not_mem_nil, or_false] at hm
        rcases hm with h | h | h | h | h | h
        · rw [h]; exact behOk_non
        · rw [h]; exact (hO.same (s3.trans s4)).beh
        · rw [h]; exact behOk_int (by decide)
        · rw [h]; exact behOk_int (by decide)
        · rw [h]; exact behOk_tup3 (s4 _ _ eq1) (by decide) (by decide) (by decide)
        · rw [h]; exact behOk_tup3 (s4 _ _ eq2) (by decide) (by decide) (by decide)
      have s5 := s3.trans s4
      simp only [cxK, wipe, tYes, List.map_cons, List.map_nil, rIxL, rSum, tSl, rSlL, tNoPart, tPart, exists_and_left, and_assoc, V.ref.injEq, HO.lst.injEq, HO.tup.injEq, tFor_eq, iRng1, iRng2, iList, iTup, tLc_eq, tLst, tTup, gSub, rSetL, gT, gL, gTup, gCons, gNil, atI_0, atI_1, atI_2, atI_3, List.length_cons, List.length_nil, Nat.zero_add, Nat.reduceAdd, Nat.reduceLeDiff, ixN_30, ixN_31, ixN_32, Int.reduceLT, Int.reduceLE, Int.reduceNeg, upd_same, reduceCtorEq, false_and, exists_false, or_false, false_or, tNext, tIfS, tRet, tRetN, tDrop, tAsg, gName, tPar, tPar3, tAug, ipI, tVar, tC, tOp, tUn, tCB, tD, tDK, tCons, tNil, rI, rI0, rU, tB, tTest, tCallS, tErr, tAnd, tOr, tNot, tAndV, tOrV, tNotV, tIf, rEq, rNe, scal_ii, scal_bb, scal_ss, rGcd_eq, tBits, List.set_cons_zero, List.set_cons_succ, List.getElem?_cons_zero, List.getElem?_cons_succ, Option.some.injEq, exists_eq_left', V.int.injEq, V.bl.injEq, V.str.injEq, true_and, and_true, decide_eq_true_eq, List.cons.injEq, exists_eq_left, Bool.false_eq_true, if_false, if_true, ite_true, ite_false, Bool.not_eq_true', decide_eq_false_iff_not, Bool.not_not]
      refine ⟨⟨_, SqL.of (s5 _ _ hdr)⟩, ?_⟩
      refine forW_list (xs := ks.map fun k : Nat => V.int (k : Int)) (InvAR2 dr gv due odd b H2) ⟨t5, t6, rfl, Same.refl _⟩ (fun j σ H3 _ z => ?_) ?_ ?_
      · obtain ⟨_, _, _, s6⟩ := z
        exact SqL.of (s6 _ _ (s5 _ _ hdr))
      · rintro j kv σ'' H3 hkv ⟨u5, u6, rfl, s6⟩
        obtain ⟨k, hkm, rfl⟩ : ∃ k ∈ ks, kv = V.int ((k : Nat) : Int) := by
          obtain ⟨k, h1, h2⟩ := List.mem_map.mp (List.mem_of_getElem? hkv)
          exact ⟨k, h1, h2.symm⟩
        have s7 := s5.trans s6
        simp only [cxK, wipe, tYes, List.map_cons, List.map_nil, rIxL, rSum, tSl, rSlL, tNoPart, tPart, exists_and_left, and_assoc, V.ref.injEq, HO.lst.injEq, HO.tup.injEq, tFor_eq, iRng1, iRng2, iList, iTup, tLc_eq, tLst, tTup, gSub, rSetL, gT, gL, gTup, gCons, gNil, atI_0, atI_1, atI_2, atI_3, List.length_cons, List.length_nil, Nat.zero_add, Nat.reduceAdd, Nat.reduceLeDiff, ixN_30, ixN_31, ixN_32, Int.reduceLT, Int.reduceLE, Int.reduceNeg, upd_same, reduceCtorEq, false_and, exists_false, or_false, false_or, tNext, tIfS, tRet, tRetN, tDrop, tAsg, gName, tPar, tPar3, tAug, ipI, tVar, tC, tOp, tUn, tCB, tD, tDK, tCons, tNil, rI, rI0, rU, tB, tTest, tCallS, tErr, tAnd, tOr, tNot, tAndV, tOrV, tNotV, tIf, rEq, rNe, scal_ii, scal_bb, scal_ss, rGcd_eq, tBits, List.set_cons_zero, List.set_cons_succ, List.getElem?_cons_zero, List.getElem?_cons_succ, Option.some.injEq, exists_eq_left', V.int.injEq, V.bl.injEq, V.str.injEq, true_and, and_true, decide_eq_true_eq, List.cons.injEq, exists_eq_left, Bool.false_eq_true, if_false, if_true, ite_true, ite_false, Bool.not_eq_true', decide_eq_false_iff_not, Bool.not_not]
        refine seq_gen fun C2 hC2 => ?_
        simp only [cxK, wipe, tYes, List.map_cons, List.map_nil, rIxL, rSum, tSl, rSlL, tNoPart, tPart, exists_and_left, and_assoc, V.ref.injEq, HO.lst.injEq, HO.tup.injEq, tFor_eq, iRng1, iRng2, iList, iTup, tLc_eq, tLst, tTup, gSub, rSetL, gT, gL, gTup, gCons, gNil, atI_0, atI_1, atI_2, atI_3, List.length_cons, List.length_nil, Nat.zero_add, Nat.reduceAdd, Nat.reduceLeDiff, ixN_30, ixN_31, ixN_32, Int.reduceLT, Int.reduceLE, Int.reduceNeg, upd_same, reduceCtorEq, false_and, exists_false, or_false, false_or, tNext, tIfS, tRet, tRetN, tDrop, tAsg, gName, tPar, tPar3, tAug, ipI, tVar, tC, tOp, tUn, tCB, tD, tDK, tCons, tNil, rI, rI0, rU, tB, tTest, tCallS, tErr, tAnd, tOr, tNot, tAndV, tOrV, tNotV, tIf, rEq, rNe, scal_ii, scal_bb, scal_ss, rGcd_eq, tBits, List.set_cons_zero, List.set_cons_succ, List.getElem?_cons_zero, List.getElem?_cons_succ, Option.some.injEq, exists_eq_left', V.int.injEq, V.bl.injEq, V.str.injEq, true_and, and_true, decide_eq_true_eq, List.cons.injEq, exists_eq_left, Bool.false_eq_true, if_false, if_true, ite_true, ite_false, Bool.not_eq_true', decide_eq_false_iff_not, Bool.not_not]
        refine ⟨d, (hO.same s7).q.dq, ?_⟩
        refine Eq.mpr (hC2 _ _) ?_
        simp only [cxK, wipe, tYes, List.map_cons, List.map_nil, rIxL, rSum, tSl, rSlL, tNoPart, tPart, exists_and_left, and_assoc, V.ref.injEq, HO.lst.injEq, HO.tup.injEq, tFor_eq, iRng1, iRng2, iList, iTup, tLc_eq, tLst, tTup, gSub, rSetL, gT, gL, gTup, gCons, gNil, atI_0, atI_1, atI_2, atI_3, List.length_cons, List.length_nil, Nat.zero_add, Nat.reduceAdd, Nat.reduceLeDiff, ixN_30, ixN_31, ixN_32, Int.reduceLT, Int.reduceLE, Int.reduceNeg, upd_same, reduceCtorEq, false_and, exists_false, or_false, false_or, tNext, tIfS, tRet, tRetN, tDrop, tAsg, gName, tPar, tPar3, tAug, ipI, tVar, tC, tOp, tUn, tCB, tD, tDK, tCons, tNil, rI, rI0, rU, tB, tTest, tCallS, tErr, tAnd, tOr, tNot, tAndV, tOrV, tNotV, tIf, rEq, rNe, scal_ii, scal_bb, scal_ss, rGcd_eq, tBits, List.set_cons_zero, List.set_cons_succ, List.getElem?_cons_zero, List.getElem?_cons_succ, Option.some.injEq, exists_eq_left', V.int.injEq, V.bl.injEq, V.str.injEq, true_and, and_true, decide_eq_true_eq, List.cons.injEq, exists_eq_left, Bool.false_eq_true, if_false, if_true, ite_true, ite_false, Bool.not_eq_true', decide_eq_false_iff_not, Bool.not_not, tLstB]
        refine ⟨by decide, fun p1 m1 => ?_⟩
        have z1 : Same H3 (upd H3 p1 (.lst [odd])) := Same.upd m1
        have f1 : upd H3 p1 (.lst [odd]) p1 = some (.lst [odd]) := upd_same
        generalize upd H3 p1 (.lst [odd]) = w1 at *
        refine ⟨gv, p1, g, [odd], rfl, rfl, z1 _ _ (s7 _ _ hgv), f1, sml (by simp only [List.length_cons, List.length_nil]; omega), fun p2 m2 => ?_⟩
        have z2 : Same w1 (upd w1 p2 (.lst (g ++ [odd]))) := Same.upd m2
        have f2 : upd w1 p2 (.lst (g ++ [odd])) p2 = some (.lst (g ++ [odd])) := upd_same
        generalize upd w1 p2 (.lst (g ++ [odd])) = w2 at *
        refine ⟨by decide, fun p3 m3 => ?_⟩
        have z3 : Same w2 (upd w2 p3 (.lst [b])) := Same.upd m3
        have f3 : upd w2 p3 (.lst [b]) p3 = some (.lst [b]) := upd_same
        generalize upd w2 p3 (.lst [b]) = w3 at *
        refine ⟨p3, 3, [b], rfl, rfl, f3, by decide, by decide, sml (by simp only [List.length_cons, List.length_nil]; omega), fun p4 m4 => ?_⟩
        rw [show (List.replicate (3 : Int).toNat [b]).flatten = [b, b, b] from rfl]
        have z4 : Same w3 (upd w3 p4 (.lst [b, b, b])) := Same.upd m4
        have f4 : upd w3 p4 (.lst [b, b, b]) p4 = some (.lst [b, b, b]) := upd_same
        generalize upd w3 p4 (.lst [b, b, b]) = w4 at *
        refine ⟨p2, p4, g ++ [odd], [b, b, b], rfl, rfl, z4 _ _ (z3 _ _ f2), f4, sml (by simp only [List.length_append, List.length_cons, List.length_nil]; omega), fun p5 m5 => ?_⟩
        have z5 : Same w4 (upd w4 p5 (.lst (g ++ [odd] ++ [b, b, b]))) := Same.upd m5
        have f5 : upd w4 p5 (.lst (g ++ [odd] ++ [b, b, b])) p5 = some (.lst (g ++ [odd] ++ [b, b, b])) := upd_same
        generalize upd w4 p5 (.lst (g ++ [odd] ++ [b, b, b])) = w5 at *
        have zz : Same H3 w5 := (((z1.trans z2).trans z3).trans z4).trans z5
        have s8 := s7.trans zz
        obtain ⟨hand, told⟩ := hall w5 b s8 (hB.same (s6.trans zz)) k hkm
        refine ⟨k, p5, _, rfl, hks k hkm, f5, hand, fun L1 w6 nL1 z6 f6 => ?_⟩
        rw [told] at f6
        refine ⟨_, (hO.same (s8.trans z6)).q.two hz nL1 f6, by decide, fun L2 m6 nL2 => ?_⟩
        have z7 : Same w6 (upd w6 L2 (.lst [.str due, odd])) := Same.upd m6
        have f7 : upd w6 L2 (.lst [.str due, odd]) L2 = some (.lst [.str due, odd]) := upd_same
        generalize upd w6 L2 (.lst [.str due, odd]) = w7 at *
        have s9 := (s8.trans z6).trans z7
        refine ⟨_, (hO.same s9).q.two hz nL2 f7, ?_⟩
        rw [if_neg (fun h => h rfl)]
        refine ⟨_, (hO.same s9).q.dq, ?_⟩
        rw [if_neg (fun h => h rfl)]
        exact ⟨_, _, rfl, s6.trans ((zz.trans z6).trans z7)⟩
      · rintro σ'' H3 ⟨u5, u6, rfl, s6⟩
        exact ⟨_, _, _, rfl, s4.trans s6⟩
    · rintro σ' H2 ⟨t4, t5, t6, rfl, s4⟩
      refine Eq.mpr (hC1 _ _) ?_
      simp only [cxK, wipe, tYes, List.map_cons, List.map_nil, rIxL, rSum, tSl, rSlL, tNoPart, tPart, exists_and_left, and_assoc, V.ref.injEq, HO.lst.injEq, HO.tup.injEq, tFor_eq, iRng1, iRng2, iList, iTup, tLc_eq, tLst, tTup, gSub, rSetL, gT, gL, gTup, gCons, gNil, atI_0, atI_1, atI_2, atI_3, List.length_cons, List.length_nil, Nat.zero_add, Nat.reduceAdd, Nat.reduceLeDiff, ixN_30, ixN_31, ixN_32, Int.reduceLT, Int.reduceLE, Int.reduceNeg, upd_same, reduceCtorEq, false_and, exists_false, or_false, false_or, tSeq, tNext, tIfS, tRet, tRetN, tDrop, tAsg, gName, tPar, tPar3, tAug, ipI, tVar, tC, tOp, tUn, tCB, tD, tDK, tCons, tNil, rI, rI0, rU, tB, tTest, tCallS, tErr, tAnd, tOr, tNot, tAndV, tOrV, tNotV, tIf, rEq, rNe, scal_ii, scal_bb, scal_ss, rGcd_eq, tBits, List.set_cons_zero, List.set_cons_succ, List.getElem?_cons_zero, List.getElem?_cons_succ, Option.some.injEq, exists_eq_left', V.int.injEq, V.bl.injEq, V.str.injEq, true_and, and_true, decide_eq_true_eq, List.cons.injEq, exists_eq_left, Bool.false_eq_true, if_false, if_true, ite_true, ite_false, Bool.not_eq_true', decide_eq_false_iff_not, Bool.not_not]
      exact kk _ (s3.trans s4)

theorem okLawWrongRoots {f : Addr} {fd : FuncData} (F : Fun K "_law_wrong_roots" "_law_wrong_roots" s_LawWrongRoots f fd) (T : Txt K mg) {fLawRoot : Addr} {fdLawRoot : FuncData} (D_LawRoot : DefAt P w K mg base 1 "_law_root" fLawRoot fdLawRoot ["_law_number"] (spRoot)) : FnOk P w K mg base CX0 2 f fd ["_law_measure_here", "_law_root_here"] (spWrongRoots K) := by
  refine F.ok scLawWrongRoots (fun vs H Q E h => ?_) (fun cdv A outer s H vs Q E hr h => ?_)
  · obtain ⟨D, r, t, rfl, _⟩ := h
    rfl
  · obtain ⟨D, r, t, rfl, hM, hD, hR, hZ, kk⟩ := h
    have er : H r = some (.tup [.int t.1, .int t.2.1, .int t.2.2]) := hR.1
    obtain ⟨z1, z2, z3⟩ := hZ
    have hgood := hR.2
    refine ⟨_, (pss_cons (ps_set (i := 2) scLawWrongRoots.nd rfl (Or.inl rfl) (pe_lst (pa_cons pe_non (pa_cons pe_int (pa_cons pe_str (pa_cons (pe_lst pa_nil) (pa_cons pe_dnewK (pa_cons pe_bl (pa_cons (pe_tup (pa_cons pe_int (pa_cons pe_int pa_nil))) (pa_cons (pe_tup (pa_cons pe_int (pa_cons pe_int (pa_cons pe_int (pa_cons pe_int pa_nil))))) (pa_cons (pe_lst (pa_cons pe_int (pa_cons pe_int (pa_cons pe_int pa_nil)))) (pa_cons (pe_tup (pa_cons pe_int (pa_cons pe_int (pa_cons pe_int pa_nil)))) (pa_cons (pe_tup (pa_cons pe_int (pa_cons pe_int (pa_cons (pe_un un_neg pe_int) pa_nil)))) (pa_cons (pe_tup (pa_cons pe_int (pa_cons pe_int (pa_cons pe_int pa_nil)))) (pa_cons (pe_tup (pa_cons pe_int (pa_cons pe_int (pa_cons pe_int pa_nil)))) (pa_cons (pe_tup (pa_cons pe_bl (pa_cons pe_int (pa_cons pe_int pa_nil)))) (pa_cons (pe_tup (pa_cons pe_int (pa_cons pe_bl (pa_cons pe_int pa_nil)))) (pa_cons (pe_tup (pa_cons pe_int (pa_cons pe_int (pa_cons pe_bl pa_nil)))) pa_nil))))))))))))))))))
        (pss_cons (ps_set (i := 2) scLawWrongRoots.nd rfl (Or.inl rfl) (pe_op op_cat (pv 2) (pe_lst (pa_cons (pe_tup (pa_cons pe_str (pa_cons pe_int (pa_cons pe_int pa_nil)))) (pa_cons (pe_tup (pa_cons pe_int (pa_cons pe_non (pa_cons pe_int pa_nil)))) (pa_cons (pe_tup (pa_cons pe_int (pa_cons pe_int (pa_cons (pe_lst (pa_cons pe_int pa_nil)) pa_nil)))) (pa_cons (pe_callTy call_list_of (by rfl) T.list (by decide +kernel) (pa_cons (pv 1) pa_nil)) (pa_cons (pe_tup (pa_cons (pe_op op_mulU pe_int (pe_ix ixT (pv 1) pe_int (fun _ _ => rfl))) (pa_cons (pe_op op_mulU pe_int (pe_ix ixT (pv 1) pe_int (fun _ _ => rfl))) (pa_cons (pe_op op_mulU pe_int (pe_ix ixT (pv 1) pe_int (fun _ _ => rfl))) pa_nil)))) (pa_cons (pe_tup (pa_cons (pe_ix ixT (pv 1) pe_int (fun _ _ => rfl)) (pa_cons (pe_ix ixT (pv 1) pe_int (fun _ _ => rfl)) (pa_cons (pe_op op_sub pe_int (pe_ix ixT (pv 1) pe_int (fun _ _ => rfl))) pa_nil)))) pa_nil)))))))))
        (pss_cons (ps_set (i := 3) scLawWrongRoots.nd rfl (Or.inl rfl) (pe_d D_LawRoot hr (pa_cons (pv 0) pa_nil)))
        (pss_one (ps_ret (pe_op op_cat (pv 2) (pe_ifExp (pt_cmpR op_eq (pe_op op_mulU (pv 3) (pv 3)) (pv 0) (nomark _)) (pe_lst (pa_cons (pe_tup (pa_cons pe_int (pa_cons pe_int (pa_cons pe_int pa_nil)))) (pa_cons (pe_tup (pa_cons pe_int (pa_cons (pe_un un_neg pe_int) (pa_cons pe_int pa_nil)))) pa_nil))) (pe_lst pa_nil)))))))), ?_⟩
    have e0 : start N_LawWrongRoots [.int D, .ref r] = [some (.int D), some (.ref r), none, none] := rfl
    rw [e0]
    simp only [cxK, wipe, tYes, List.map_cons, List.map_nil, rIxL, rSum, tSl, rSlL, tNoPart, tPart, exists_and_left, and_assoc, V.ref.injEq, HO.lst.injEq, HO.tup.injEq, tFor_eq, iRng1, iRng2, iList, iTup, tLc_eq, tLst, tTup, gSub, rSetL, gT, gL, gTup, gCons, gNil, atI_0, atI_1, atI_2, atI_3, List.length_cons, List.length_nil, Nat.zero_add, Nat.reduceAdd, Nat.reduceLeDiff, ixN_30, ixN_31, ixN_32, Int.reduceLT, Int.reduceLE, Int.reduceNeg, upd_same, reduceCtorEq, false_and, exists_false, or_false, false_or, tNext, tIfS, tRet, tRetN, tDrop, tAsg, gName, tPar, tPar3, tAug, ipI, tVar, tC, tOp, tUn, tCB, tD, tDK, tCons, tNil, rI, rI0, rU, tB, tTest, tCallS, tErr, tAnd, tOr, tNot, tAndV, tOrV, tNotV, tIf, rEq, rNe, scal_ii, scal_bb, scal_ss, rGcd_eq, tBits, List.set_cons_zero, List.set_cons_succ, List.getElem?_cons_zero, List.getElem?_cons_succ, Option.some.injEq, exists_eq_left', V.int.injEq, V.bl.injEq, V.str.injEq, true_and, and_true, decide_eq_true_eq, List.cons.injEq, exists_eq_left, Bool.false_eq_true, if_false, if_true, ite_true, ite_false, Bool.not_eq_true', decide_eq_false_iff_not, Bool.not_not]
    refine seq_gen fun C1 hC1 => ?_
    simp only [cxK, wipe, tYes, List.map_cons, List.map_nil, rIxL, rSum, tSl, rSlL, tNoPart, tPart, exists_and_left, and_assoc, V.ref.injEq, HO.lst.injEq, HO.tup.injEq, tFor_eq, iRng1, iRng2, iList, iTup, tLc_eq, tLst, tTup, gSub, rSetL, gT, gL, gTup, gCons, gNil, atI_0, atI_1, atI_2, atI_3, List.length_cons, List.length_nil, Nat.zero_add, Nat.reduceAdd, Nat.reduceLeDiff, ixN_30, ixN_31, ixN_32, Int.reduceLT, Int.reduceLE, Int.reduceNeg, upd_same, reduceCtorEq, false_and, exists_false, or_false, false_or, tNext, tIfS, tRet, tRetN, tDrop, tAsg, gName, tPar, tPar3, tAug, ipI, tVar, tC, tOp, tUn, tCB, tD, tDK, tCons, tNil, rI, rI0, rU, tB, tTest, tCallS, tErr, tAnd, tOr, tNot, tAndV, tOrV, tNotV, tIf, rEq, rNe, scal_ii, scal_bb, scal_ss, rGcd_eq, tBits, List.set_cons_zero, List.set_cons_succ, List.getElem?_cons_zero, List.getElem?_cons_succ, Option.some.injEq, exists_eq_left', V.int.injEq, V.bl.injEq, V.str.injEq, true_and, and_true, decide_eq_true_eq, List.cons.injEq, exists_eq_left, Bool.false_eq_true, if_false, if_true, ite_true, ite_false, Bool.not_eq_true', decide_eq_false_iff_not, Bool.not_not, tDNewK]
    have a0 : Same H H := Same.refl _
    refine ⟨by decide, fun p1 n1 => ?_⟩
    have s1 : Same H (upd H p1 (.lst [])) := Same.upd n1
    have e1 : (upd H p1 (.lst [])) p1 = some (.lst []) := upd_same
    have a1 := a0.trans s1
    generalize upd H p1 (.lst []) = w1 at s1 e1 a1 ⊢
    refine fun p2 n2 => ?_
    have s2 : Same w1 (upd w1 p2 (.dK [])) := Same.upd n2
    have e2 : (upd w1 p2 (.dK [])) p2 = some (.dK []) := upd_same
    have a2 := a1.trans s2
    generalize upd w1 p2 (.dK []) = w2 at s2 e2 a2 ⊢
    refine ⟨by decide, fun p3 n3 => ?_⟩
    have s3 : Same w2 (upd w2 p3 (.tup [V.int 1, V.int 0])) := Same.upd n3
    have e3 : (upd w2 p3 (.tup [V.int 1, V.int 0])) p3 = some (.tup [V.int 1, V.int 0]) := upd_same
    have a3 := a2.trans s3
    generalize upd w2 p3 (.tup [V.int 1, V.int 0]) = w3 at s3 e3 a3 ⊢
    refine ⟨by decide, fun p4 n4 => ?_⟩
    have s4 : Same w3 (upd w3 p4 (.tup [V.int 1, V.int 0, V.int 1, V.int 1])) := Same.upd n4
    have e4 : (upd w3 p4 (.tup [V.int 1, V.int 0, V.int 1, V.int 1])) p4 = some (.tup [V.int 1, V.int 0, V.int 1, V.int 1]) := upd_same
    have a4 := a3.trans s4
    generalize upd w3 p4 (.tup [V.int 1, V.int 0, V.int 1, V.int 1]) = w4 at s4 e4 a4 ⊢
    refine ⟨by decide, fun p5 n5 => ?_⟩
    have s5 : Same w4 (upd w4 p5 (.lst [V.int 1, V.int 0, V.int 1])) := Same.upd n5
    have e5 : (upd w4 p5 (.lst [V.int 1, V.int 0, V.int 1])) p5 = some (.lst [V.int 1, V.int 0, V.int 1]) := upd_same
    have a5 := a4.trans s5
    generalize upd w4 p5 (.lst [V.int 1, V.int 0, V.int 1]) = w5 at s5 e5 a5 ⊢
    refine ⟨by decide, fun p6 n6 => ?_⟩
    have s6 : Same w5 (upd w5 p6 (.tup [V.int 1, V.int 0, V.int 0])) := Same.upd n6
    have e6 : (upd w5 p6 (.tup [V.int 1, V.int 0, V.int 0])) p6 = some (.tup [V.int 1, V.int 0, V.int 0]) := upd_same
    have a6 := a5.trans s6
    generalize upd w5 p6 (.tup [V.int 1, V.int 0, V.int 0]) = w6 at s6 e6 a6 ⊢
    refine ⟨by decide, fun p7 n7 => ?_⟩
    have s7 : Same w6 (upd w6 p7 (.tup [V.int 1, V.int 0, V.int (-1)])) := Same.upd n7
    have e7 : (upd w6 p7 (.tup [V.int 1, V.int 0, V.int (-1)])) p7 = some (.tup [V.int 1, V.int 0, V.int (-1)]) := upd_same
    have a7 := a6.trans s7
    generalize upd w6 p7 (.tup [V.int 1, V.int 0, V.int (-1)]) = w7 at s7 e7 a7 ⊢
    refine ⟨by decide, fun p8 n8 => ?_⟩
    have s8 : Same w7 (upd w7 p8 (.tup [V.int 2, V.int 0, V.int 2])) := Same.upd n8
    have e8 : (upd w7 p8 (.tup [V.int 2, V.int 0, V.int 2])) p8 = some (.tup [V.int 2, V.int 0, V.int 2]) := upd_same
    have a8 := a7.trans s8
    generalize upd w7 p8 (.tup [V.int 2, V.int 0, V.int 2]) = w8 at s8 e8 a8 ⊢
    refine ⟨by decide, fun p9 n9 => ?_⟩
    have s9 : Same w8 (upd w8 p9 (.tup [V.int 0, V.int 0, V.int 2])) := Same.upd n9
    have e9 : (upd w8 p9 (.tup [V.int 0, V.int 0, V.int 2])) p9 = some (.tup [V.int 0, V.int 0, V.int 2]) := upd_same
    have a9 := a8.trans s9
    generalize upd w8 p9 (.tup [V.int 0, V.int 0, V.int 2]) = w9 at s9 e9 a9 ⊢
    refine ⟨by decide, fun p10 n10 => ?_⟩
    have s10 : Same w9 (upd w9 p10 (.tup [V.bl true, V.int 0, V.int 1])) := Same.upd n10
    have e10 : (upd w9 p10 (.tup [V.bl true, V.int 0, V.int 1])) p10 = some (.tup [V.bl true, V.int 0, V.int 1]) := upd_same
    have a10 := a9.trans s10
    generalize upd w9 p10 (.tup [V.bl true, V.int 0, V.int 1]) = w10 at s10 e10 a10 ⊢
    refine ⟨by decide, fun p11 n11 => ?_⟩
    have s11 : Same w10 (upd w10 p11 (.tup [V.int 1, V.bl false, V.int 1])) := Same.upd n11
    have e11 : (upd w10 p11 (.tup [V.int 1, V.bl false, V.int 1])) p11 = some (.tup [V.int 1, V.bl false, V.int 1]) := upd_same
    have a11 := a10.trans s11
    generalize upd w10 p11 (.tup [V.int 1, V.bl false, V.int 1]) = w11 at s11 e11 a11 ⊢
    refine ⟨by decide, fun p12 n12 => ?_⟩
    have s12 : Same w11 (upd w11 p12 (.tup [V.int 1, V.int 0, V.bl true])) := Same.upd n12
    have e12 : (upd w11 p12 (.tup [V.int 1, V.int 0, V.bl true])) p12 = some (.tup [V.int 1, V.int 0, V.bl true]) := upd_same
    have a12 := a11.trans s12
    generalize upd w11 p12 (.tup [V.int 1, V.int 0, V.bl true]) = w12 at s12 e12 a12 ⊢
    refine ⟨by decide, fun p13 n13 => ?_⟩
    have s13 : Same w12 (upd w12 p13 (.lst [V.non, V.int 0, V.str (Str.ofString "r"), V.ref p1, V.ref p2, V.bl true, V.ref p3, V.ref p4, V.ref p5, V.ref p6, V.ref p7, V.ref p8, V.ref p9, V.ref p10, V.ref p11, V.ref p12])) := Same.upd n13
    have e13 : (upd w12 p13 (.lst [V.non, V.int 0, V.str (Str.ofString "r"), V.ref p1, V.ref p2, V.bl true, V.ref p3, V.ref p4, V.ref p5, V.ref p6, V.ref p7, V.ref p8, V.ref p9, V.ref p10, V.ref p11, V.ref p12])) p13 = some (.lst [V.non, V.int 0, V.str (Str.ofString "r"), V.ref p1, V.ref p2, V.bl true, V.ref p3, V.ref p4, V.ref p5, V.ref p6, V.ref p7, V.ref p8, V.ref p9, V.ref p10, V.ref p11, V.ref p12]) := upd_same
    have a13 := a12.trans s13
    generalize upd w12 p13 (.lst [V.non, V.int 0, V.str (Str.ofString "r"), V.ref p1, V.ref p2, V.bl true, V.ref p3, V.ref p4, V.ref p5, V.ref p6, V.ref p7, V.ref p8, V.ref p9, V.ref p10, V.ref p11, V.ref p12]) = w13 at s13 e13 a13 ⊢
    refine Eq.mpr (hC1 _ _) ?_
    refine seq_gen fun C2 hC2 => ?_
    have ed := a13 _ _ er
    simp only [cxK, wipe, tYes, List.map_cons, List.map_nil, rIxL, rSum, tSl, rSlL, tNoPart, tPart, exists_and_left, and_assoc, V.ref.injEq, HO.lst.injEq, HO.tup.injEq, tFor_eq, iRng1, iRng2, iList, iTup, tLc_eq, tLst, tTup, gSub, rSetL, gT, gL, gTup, gCons, gNil, atI_0, atI_1, atI_2, atI_3, List.length_cons, List.length_nil, Nat.zero_add, Nat.reduceAdd, Nat.reduceLeDiff, ixN_30, ixN_31, ixN_32, Int.reduceLT, Int.reduceLE, Int.reduceNeg, upd_same, reduceCtorEq, false_and, exists_false, or_false, false_or, tNext, tIfS, tRet, tRetN, tDrop, tAsg, gName, tPar, tPar3, tAug, ipI, tVar, tC, tOp, tUn, tCB, tD, tDK, tCons, tNil, rI, rI0, rU, tB, tTest, tCallS, tErr, tAnd, tOr, tNot, tAndV, tOrV, tNotV, tIf, rEq, rNe, scal_ii, scal_bb, scal_ss, rGcd_eq, tBits, List.set_cons_zero, List.set_cons_succ, List.getElem?_cons_zero, List.getElem?_cons_succ, Option.some.injEq, exists_eq_left', V.int.injEq, V.bl.injEq, V.str.injEq, true_and, and_true, decide_eq_true_eq, List.cons.injEq, exists_eq_left, Bool.false_eq_true, if_false, if_true, ite_true, ite_false, Bool.not_eq_true', decide_eq_false_iff_not, Bool.not_not, ed]
    refine ⟨by decide, fun p14 n14 => ?_⟩
    have s14 : Same w13 (upd w13 p14 (.tup [V.str (Str.ofString "1"), V.int 0, V.int 1])) := Same.upd n14
    have e14 : (upd w13 p14 (.tup [V.str (Str.ofString "1"), V.int 0, V.int 1])) p14 = some (.tup [V.str (Str.ofString "1"), V.int 0, V.int 1]) := upd_same
    have a14 := a13.trans s14
    generalize upd w13 p14 (.tup [V.str (Str.ofString "1"), V.int 0, V.int 1]) = w14 at s14 e14 a14 ⊢
    refine ⟨by decide, fun p15 n15 => ?_⟩
    have s15 : Same w14 (upd w14 p15 (.tup [V.int 1, V.non, V.int 1])) := Same.upd n15
    have e15 : (upd w14 p15 (.tup [V.int 1, V.non, V.int 1])) p15 = some (.tup [V.int 1, V.non, V.int 1]) := upd_same
    have a15 := a14.trans s15
    generalize upd w14 p15 (.tup [V.int 1, V.non, V.int 1]) = w15 at s15 e15 a15 ⊢
    refine ⟨by decide, fun p16 n16 => ?_⟩
    have s16 : Same w15 (upd w15 p16 (.lst [V.int 1])) := Same.upd n16
    have e16 : (upd w15 p16 (.lst [V.int 1])) p16 = some (.lst [V.int 1]) := upd_same
    have a16 := a15.trans s16
    generalize upd w15 p16 (.lst [V.int 1]) = w16 at s16 e16 a16 ⊢
    refine ⟨by decide, fun p17 n17 => ?_⟩
    have s17 : Same w16 (upd w16 p17 (.tup [V.int 1, V.int 0, V.ref p16])) := Same.upd n17
    have e17 : (upd w16 p17 (.tup [V.int 1, V.int 0, V.ref p16])) p17 = some (.tup [V.int 1, V.int 0, V.ref p16]) := upd_same
    have a17 := a16.trans s17
    generalize upd w16 p17 (.tup [V.int 1, V.int 0, V.ref p16]) = w17 at s17 e17 a17 ⊢
    refine ⟨_, .inr (SqT.of (a17 _ _ er)), fun p18 n18 => ?_⟩
    have s18 : Same w17 (upd w17 p18 (.lst [V.int t.1, V.int t.2.1, V.int t.2.2])) := Same.upd n18
    have e18 : (upd w17 p18 (.lst [V.int t.1, V.int t.2.1, V.int t.2.2])) p18 = some (.lst [V.int t.1, V.int t.2.1, V.int t.2.2]) := upd_same
    have a18 := a17.trans s18
    generalize upd w17 p18 (.lst [V.int t.1, V.int t.2.1, V.int t.2.2]) = w18 at s18 e18 a18 ⊢
    refine ⟨_, a18 _ _ er, _, atI_0, _, rfl, okm (n := 10) (by decide) z1 (by decide) (by decide), _, a18 _ _ er, _, atI_1, _, rfl, okm (n := 10) (by decide) z2 (by decide) (by decide), _, a18 _ _ er, _, atI_2, _, rfl, okm (n := 10) (by decide) z3 (by decide) (by decide), by decide, fun p19 n19 => ?_⟩
    have s19 : Same w18 (upd w18 p19 (.tup [V.int (2 * t.1), V.int (2 * t.2.1), V.int (2 * t.2.2)])) := Same.upd n19
    have e19 : (upd w18 p19 (.tup [V.int (2 * t.1), V.int (2 * t.2.1), V.int (2 * t.2.2)])) p19 = some (.tup [V.int (2 * t.1), V.int (2 * t.2.1), V.int (2 * t.2.2)]) := upd_same
    have a19 := a18.trans s19
    generalize upd w18 p19 (.tup [V.int (2 * t.1), V.int (2 * t.2.1), V.int (2 * t.2.2)]) = w19 at s19 e19 a19 ⊢
    refine ⟨_, a19 _ _ er, _, atI_0, _, a19 _ _ er, _, atI_1, _, a19 _ _ er, _, atI_2, _, rfl, by decide, fun p20 n20 => ?_⟩
    have s20 : Same w19 (upd w19 p20 (.tup [V.int t.1, V.int t.2.1, V.int (0 - t.2.2)])) := Same.upd n20
    have e20 : (upd w19 p20 (.tup [V.int t.1, V.int t.2.1, V.int (0 - t.2.2)])) p20 = some (.tup [V.int t.1, V.int t.2.1, V.int (0 - t.2.2)]) := upd_same
    have a20 := a19.trans s20
    generalize upd w19 p20 (.tup [V.int t.1, V.int t.2.1, V.int (0 - t.2.2)]) = w20 at s20 e20 a20 ⊢
    refine ⟨by decide, fun p21 n21 => ?_⟩
    have s21 : Same w20 (upd w20 p21 (.lst [V.ref p14, V.ref p15, V.ref p17, V.ref p18, V.ref p19, V.ref p20])) := Same.upd n21
    have e21 : (upd w20 p21 (.lst [V.ref p14, V.ref p15, V.ref p17, V.ref p18, V.ref p19, V.ref p20])) p21 = some (.lst [V.ref p14, V.ref p15, V.ref p17, V.ref p18, V.ref p19, V.ref p20]) := upd_same
    have a21 := a20.trans s21
    generalize upd w20 p21 (.lst [V.ref p14, V.ref p15, V.ref p17, V.ref p18, V.ref p19, V.ref p20]) = w21 at s21 e21 a21 ⊢
    refine ⟨p13, p21, _, _, rfl, rfl, ((((((((s14.trans s15).trans s16).trans s17).trans s18).trans s19).trans s20).trans s21)) _ _ e13, e21, sml (Nat.le_of_ble_eq_true rfl), fun p22 n22 => ?_⟩
    have s22 : Same w21 (upd w21 p22 (.lst ([V.non, V.int 0, V.str (Str.ofString "r"), V.ref p1, V.ref p2, V.bl true, V.ref p3, V.ref p4, V.ref p5, V.ref p6, V.ref p7, V.ref p8, V.ref p9, V.ref p10, V.ref p11, V.ref p12] ++ [V.ref p14, V.ref p15, V.ref p17, V.ref p18, V.ref p19, V.ref p20]))) := Same.upd n22
    have e22 : (upd w21 p22 (.lst ([V.non, V.int 0, V.str (Str.ofString "r"), V.ref p1, V.ref p2, V.bl true, V.ref p3, V.ref p4, V.ref p5, V.ref p6, V.ref p7, V.ref p8, V.ref p9, V.ref p10, V.ref p11, V.ref p12] ++ [V.ref p14, V.ref p15, V.ref p17, V.ref p18, V.ref p19, V.ref p20]))) p22 = some (.lst ([V.non, V.int 0, V.str (Str.ofString "r"), V.ref p1, V.ref p2, V.bl true, V.ref p3, V.ref p4, V.ref p5, V.ref p6, V.ref p7, V.ref p8, V.ref p9, V.ref p10, V.ref p11, V.ref p12] ++ [V.ref p14, V.ref p15, V.ref p17, V.ref p18, V.ref p19, V.ref p20])) := upd_same
    have a22 := a21.trans s22
    generalize upd w21 p22 (.lst ([V.non, V.int 0, V.str (Str.ofString "r"), V.ref p1, V.ref p2, V.bl true, V.ref p3, V.ref p4, V.ref p5, V.ref p6, V.ref p7, V.ref p8, V.ref p9, V.ref p10, V.ref p11, V.ref p12] ++ [V.ref p14, V.ref p15, V.ref p17, V.ref p18, V.ref p19, V.ref p20])) = w22 at s22 e22 a22 ⊢
    have items : ∀ x ∈ [V.non, V.int 0, V.str (Str.ofString "r"), V.ref p1, V.ref p2, V.bl true, V.ref p3, V.ref p4, V.ref p5, V.ref p6, V.ref p7, V.ref p8, V.ref p9, V.ref p10, V.ref p11, V.ref p12] ++ [V.ref p14, V.ref p15, V.ref p17, V.ref p18, V.ref p19, V.ref p20], BadRoot K D w22 x := by
      intro x hx
      simp only [List.mem_append, List.mem_cons, List.not_mem_nil, or_false] at hx
      rcases hx with (rfl | rfl | rfl | rfl | rfl | rfl | rfl | rfl | rfl | rfl | rfl | rfl | rfl | rfl | rfl | rfl) | (rfl | rfl | rfl | rfl | rfl | rfl)
      · exact bad_non
      · exact bad_int (by decide)
      · exact bad_str ⟨by decide +kernel, by decide +kernel, by decide +kernel⟩
      · exact (bad_lst e1 .nil (Nat.le_of_ble_eq_true rfl) (Nat.le_of_ble_eq_true rfl)).same ((((((((((((((((((((s2.trans s3).trans s4).trans s5).trans s6).trans s7).trans s8).trans s9).trans s10).trans s11).trans s12).trans s13).trans s14).trans s15).trans s16).trans s17).trans s18).trans s19).trans s20).trans s21).trans s22)
      · exact (bad_dict e2).same (((((((((((((((((((s3.trans s4).trans s5).trans s6).trans s7).trans s8).trans s9).trans s10).trans s11).trans s12).trans s13).trans s14).trans s15).trans s16).trans s17).trans s18).trans s19).trans s20).trans s21).trans s22)
      · exact bad_bl
      · exact (bad_tup e3 (.cons (.int (n := 10) (by decide) (by decide)) (.cons (.int (n := 10) (by decide) (by decide)) .nil)) (Nat.le_of_ble_eq_true rfl) (by decide +kernel) (fun i hi => by simp only [List.mem_cons, V.int.injEq, List.not_mem_nil, or_false, reduceCtorEq, false_or] at hi; rcases hi with rfl | rfl <;> decide) rfl).same ((((((((((((((((((s4.trans s5).trans s6).trans s7).trans s8).trans s9).trans s10).trans s11).trans s12).trans s13).trans s14).trans s15).trans s16).trans s17).trans s18).trans s19).trans s20).trans s21).trans s22)
      · exact (bad_tup e4 (.cons (.int (n := 10) (by decide) (by decide)) (.cons (.int (n := 10) (by decide) (by decide)) (.cons (.int (n := 10) (by decide) (by decide)) (.cons (.int (n := 10) (by decide) (by decide)) .nil)))) (Nat.le_of_ble_eq_true rfl) (by decide +kernel) (fun i hi => by simp only [List.mem_cons, V.int.injEq, List.not_mem_nil, or_false, reduceCtorEq, false_or] at hi; rcases hi with rfl | rfl | rfl | rfl <;> decide) rfl).same (((((((((((((((((s5.trans s6).trans s7).trans s8).trans s9).trans s10).trans s11).trans s12).trans s13).trans s14).trans s15).trans s16).trans s17).trans s18).trans s19).trans s20).trans s21).trans s22)
      · exact (bad_lst e5 (.cons (.int (n := 10) (by decide) (by decide)) (.cons (.int (n := 10) (by decide) (by decide)) (.cons (.int (n := 10) (by decide) (by decide)) .nil))) (Nat.le_of_ble_eq_true rfl) (Nat.le_of_ble_eq_true rfl)).same ((((((((((((((((s6.trans s7).trans s8).trans s9).trans s10).trans s11).trans s12).trans s13).trans s14).trans s15).trans s16).trans s17).trans s18).trans s19).trans s20).trans s21).trans s22)
      · exact (bad_tri e6 (by decide) (by decide) (by decide) (by rfl)).same (((((((((((((((s7.trans s8).trans s9).trans s10).trans s11).trans s12).trans s13).trans s14).trans s15).trans s16).trans s17).trans s18).trans s19).trans s20).trans s21).trans s22)
      · exact (bad_tri e7 (by decide) (by decide) (by decide) (by rfl)).same ((((((((((((((s8.trans s9).trans s10).trans s11).trans s12).trans s13).trans s14).trans s15).trans s16).trans s17).trans s18).trans s19).trans s20).trans s21).trans s22)
      · exact (bad_tri e8 (by decide) (by decide) (by decide) (by rw [decide_eq_false (show ¬ gcdI (gcdI 2 0) 2 ≤ 1 by decide +kernel)]; simp)).same (((((((((((((s9.trans s10).trans s11).trans s12).trans s13).trans s14).trans s15).trans s16).trans s17).trans s18).trans s19).trans s20).trans s21).trans s22)
      · exact (bad_tri e9 (by decide) (by decide) (by decide) (by rw [decide_eq_false (show ¬ gcdI (gcdI 0 0) 2 ≤ 1 by decide +kernel)]; simp)).same ((((((((((((s10.trans s11).trans s12).trans s13).trans s14).trans s15).trans s16).trans s17).trans s18).trans s19).trans s20).trans s21).trans s22)
      · exact (bad_tup e10 (.cons (.bl) (.cons (.int (n := 10) (by decide) (by decide)) (.cons (.int (n := 10) (by decide) (by decide)) .nil))) (Nat.le_of_ble_eq_true rfl) (by decide +kernel) (fun i hi => by simp only [List.mem_cons, V.int.injEq, List.not_mem_nil, or_false, reduceCtorEq, false_or] at hi; rcases hi with rfl | rfl <;> decide) rfl).same (((((((((((s11.trans s12).trans s13).trans s14).trans s15).trans s16).trans s17).trans s18).trans s19).trans s20).trans s21).trans s22)
      · exact (bad_tup e11 (.cons (.int (n := 10) (by decide) (by decide)) (.cons (.bl) (.cons (.int (n := 10) (by decide) (by decide)) .nil))) (Nat.le_of_ble_eq_true rfl) (by decide +kernel) (fun i hi => by simp only [List.mem_cons, V.int.injEq, List.not_mem_nil, or_false, reduceCtorEq, false_or] at hi; rcases hi with rfl | rfl <;> decide) rfl).same ((((((((((s12.trans s13).trans s14).trans s15).trans s16).trans s17).trans s18).trans s19).trans s20).trans s21).trans s22)
      · exact (bad_tup e12 (.cons (.int (n := 10) (by decide) (by decide)) (.cons (.int (n := 10) (by decide) (by decide)) (.cons (.bl) .nil))) (Nat.le_of_ble_eq_true rfl) (by decide +kernel) (fun i hi => by simp only [List.mem_cons, V.int.injEq, List.not_mem_nil, or_false, reduceCtorEq, false_or] at hi; rcases hi with rfl | rfl <;> decide) rfl).same (((((((((s13.trans s14).trans s15).trans s16).trans s17).trans s18).trans s19).trans s20).trans s21).trans s22)
      · exact (bad_tup e14 (.cons (.str (by decide +kernel) (by decide +kernel) (by decide +kernel)) (.cons (.int (n := 10) (by decide) (by decide)) (.cons (.int (n := 10) (by decide) (by decide)) .nil))) (Nat.le_of_ble_eq_true rfl) (by decide +kernel) (fun i hi => by simp only [List.mem_cons, V.int.injEq, List.not_mem_nil, or_false, reduceCtorEq, false_or] at hi; rcases hi with rfl | rfl <;> decide) rfl).same (((((((s15.trans s16).trans s17).trans s18).trans s19).trans s20).trans s21).trans s22)
      · exact (bad_tup e15 (.cons (.int (n := 10) (by decide) (by decide)) (.cons (.non) (.cons (.int (n := 10) (by decide) (by decide)) .nil))) (Nat.le_of_ble_eq_true rfl) (by decide +kernel) (fun i hi => by simp only [List.mem_cons, V.int.injEq, List.not_mem_nil, or_false, reduceCtorEq, false_or] at hi; rcases hi with rfl | rfl <;> decide) rfl).same ((((((s16.trans s17).trans s18).trans s19).trans s20).trans s21).trans s22)
      · exact (bad_tup e17 (.cons (.int (n := 10) (by decide) (by decide)) (.cons (.int (n := 10) (by decide) (by decide)) (.cons (.lst1 (n := 10) (s17 _ _ e16) (by decide) (by decide)) .nil))) (Nat.le_of_ble_eq_true rfl) (Nat.le_of_ble_eq_true rfl) (fun i hi => by simp only [List.mem_cons, V.int.injEq, List.not_mem_nil, or_false, reduceCtorEq, false_or] at hi; rcases hi with rfl | rfl <;> decide) rfl).same ((((s18.trans s19).trans s20).trans s21).trans s22)
      · exact (bad_lst e18 (.cons (.int z1 (by decide)) (.cons (.int z2 (by decide)) (.cons (.int z3 (by decide)) .nil))) (Nat.le_of_ble_eq_true rfl) (Nat.le_of_ble_eq_true rfl)).same (((s19.trans s20).trans s21).trans s22)
      · exact (bad_tri e19 (by omega) (by omega) (by omega) (by rw [gcd3_mul, hgood.2.1]; simp)).same ((s20.trans s21).trans s22)
      · exact (bad_tri e20 (by omega) (by omega) (by omega) (by rw [decide_eq_false (show ¬ 1 ≤ 0 - t.2.2 by have := hgood.1; omega), Bool.false_and])).same (s21.trans s22)
    refine Eq.mpr (hC2 _ _) ?_
    refine seq_gen fun C3 hC3 => ?_
    simp only [cxK, wipe, tYes, List.map_cons, List.map_nil, rIxL, rSum, tSl, rSlL, tNoPart, tPart, exists_and_left, and_assoc, V.ref.injEq, HO.lst.injEq, HO.tup.injEq, tFor_eq, iRng1, iRng2, iList, iTup, tLc_eq, tLst, tTup, gSub, rSetL, gT, gL, gTup, gCons, gNil, atI_0, atI_1, atI_2, atI_3, List.length_cons, List.length_nil, Nat.zero_add, Nat.reduceAdd, Nat.reduceLeDiff, ixN_30, ixN_31, ixN_32, Int.reduceLT, Int.reduceLE, Int.reduceNeg, upd_same, reduceCtorEq, false_and, exists_false, or_false, false_or, tNext, tIfS, tRet, tRetN, tDrop, tAsg, gName, tPar, tPar3, tAug, ipI, tVar, tC, tOp, tUn, tCB, tD, tDK, tCons, tNil, rI, rI0, rU, tB, tTest, tCallS, tErr, tAnd, tOr, tNot, tAndV, tOrV, tNotV, tIf, rEq, rNe, scal_ii, scal_bb, scal_ss, rGcd_eq, tBits, List.set_cons_zero, List.set_cons_succ, List.getElem?_cons_zero, List.getElem?_cons_succ, Option.some.injEq, exists_eq_left', V.int.injEq, V.bl.injEq, V.str.injEq, true_and, and_true, decide_eq_true_eq, List.cons.injEq, exists_eq_left, Bool.false_eq_true, if_false, if_true, ite_true, ite_false, Bool.not_eq_true', decide_eq_false_iff_not, Bool.not_not]
    obtain ⟨r0, r1⟩ := rt_le (show 0 ≤ D by have := hM.1; omega)
    have h5 := hM.1
    refine ⟨D, rfl, by omega, by omega, fun u1 sb => ?_⟩
    refine Eq.mpr (hC3 _ _) ?_
    simp only [cxK, wipe, tYes, List.map_cons, List.map_nil, rIxL, rSum, tSl, rSlL, tNoPart, tPart, exists_and_left, and_assoc, V.ref.injEq, HO.lst.injEq, HO.tup.injEq, tFor_eq, iRng1, iRng2, iList, iTup, tLc_eq, tLst, tTup, gSub, rSetL, gT, gL, gTup, gCons, gNil, atI_0, atI_1, atI_2, atI_3, List.length_cons, List.length_nil, Nat.zero_add, Nat.reduceAdd, Nat.reduceLeDiff, ixN_30, ixN_31, ixN_32, Int.reduceLT, Int.reduceLE, Int.reduceNeg, upd_same, reduceCtorEq, false_and, exists_false, or_false, false_or, tNext, tIfS, tRet, tRetN, tDrop, tAsg, gName, tPar, tPar3, tAug, ipI, tVar, tC, tOp, tUn, tCB, tD, tDK, tCons, tNil, rI, rI0, rU, tB, tTest, tCallS, tErr, tAnd, tOr, tNot, tAndV, tOrV, tNotV, tIf, rEq, rNe, scal_ii, scal_bb, scal_ss, rGcd_eq, tBits, List.set_cons_zero, List.set_cons_succ, List.getElem?_cons_zero, List.getElem?_cons_succ, Option.some.injEq, exists_eq_left', V.int.injEq, V.bl.injEq, V.str.injEq, true_and, and_true, decide_eq_true_eq, List.cons.injEq, exists_eq_left, Bool.false_eq_true, if_false, if_true, ite_true, ite_false, Bool.not_eq_true', decide_eq_false_iff_not, Bool.not_not]
    refine ⟨cmw (by omega) (by omega) (by omega) (by omega), ite2 (fun hs => ?_) (fun hs => ?_)⟩
    · have hsq : Sq D := hs
      refine ⟨by decide, fun b1 m1 => ⟨by decide, fun b2 m2 => ⟨by decide, fun b3 m3 => ?_⟩⟩⟩
      obtain ⟨h3, hh⟩ : ∃ h3, h3 = upd (upd (upd u1 b1 (.tup [.int 0, .int 1, .int 1])) b2 (.tup [.int 1, .int (-1), .int 2])) b3 (.lst [.ref b1, .ref b2]) := ⟨_, rfl⟩
      rw [← hh]
      have f3 : h3 b3 = some (.lst [.ref b1, .ref b2]) := by rw [hh]; exact upd_same
      have f2 : h3 b2 = some (.tup [.int 1, .int (-1), .int 2]) := by rw [hh]; exact (Same.upd m3) _ _ upd_same
      have f1 : h3 b1 = some (.tup [.int 0, .int 1, .int 1]) := by rw [hh]; exact (Same.upd m3) _ _ ((Same.upd m2) _ _ upd_same)
      have sc : Same u1 h3 := by rw [hh]; exact ((Same.upd m1).trans (Same.upd m2)).trans (Same.upd m3)
      clear hh
      refine ⟨_, b3, _, [.ref b1, .ref b2], rfl, rfl, (sb.trans sc) _ _ e22, f3, sml (Nat.le_of_ble_eq_true rfl), fun b4 m4 => ?_⟩
      have sd := Same.upd (o := .lst (([V.non, V.int 0, V.str (Str.ofString "r"), V.ref p1, V.ref p2, V.bl true, V.ref p3, V.ref p4, V.ref p5, V.ref p6, V.ref p7, V.ref p8, V.ref p9, V.ref p10, V.ref p11, V.ref p12] ++ [V.ref p14, V.ref p15, V.ref p17, V.ref p18, V.ref p19, V.ref p20]) ++ [.ref b1, .ref b2])) m4
      refine kk b4 _ _ (((a22.trans sb).trans sc).trans sd) upd_same (fun x hx => ?_)
      rcases List.mem_append.mp hx with hx | hx
      · exact (items x hx).same ((sb.trans sc).trans sd)
      · simp only [List.mem_cons, List.not_mem_nil, or_false] at hx
        rcases hx with rfl | rfl
        · exact (bad_tri f1 (by decide) (by decide) (by decide) (by simp [hsq])).same sd
        · exact (bad_tri f2 (by decide) (by decide) (by decide) (by simp [hsq])).same sd
    · refine ⟨by decide, fun b3 m3 => ?_⟩
      refine ⟨_, b3, _, [], rfl, rfl, (sb.trans (Same.upd m3)) _ _ e22, upd_same, sml (Nat.le_of_ble_eq_true rfl), fun b4 m4 => ?_⟩
      have sd := Same.upd (o := .lst (([V.non, V.int 0, V.str (Str.ofString "r"), V.ref p1, V.ref p2, V.bl true, V.ref p3, V.ref p4, V.ref p5, V.ref p6, V.ref p7, V.ref p8, V.ref p9, V.ref p10, V.ref p11, V.ref p12] ++ [V.ref p14, V.ref p15, V.ref p17, V.ref p18, V.ref p19, V.ref p20]) ++ [])) m4
      refine kk b4 _ _ (((a22.trans sb).trans (Same.upd m3)).trans sd) upd_same (fun x hx => ?_)
      rw [List.append_nil] at hx
      exact (items x hx).same ((sb.trans (Same.upd m3)).trans sd)

theorem okLaw {f : Addr} {fd : FuncData} (F : Fun K "law" "law" s_Law f fd) (T : Txt K mg) {C_InvalidMeasure f_InvalidMeasure : Addr} {fd_InvalidMeasure : FuncData} (E_InvalidMeasure : ErrN P w K mg base "InvalidMeasure" C_InvalidMeasure f_InvalidMeasure fd_InvalidMeasure) {C_InvalidRoot f_InvalidRoot : Addr} {fd_InvalidRoot : FuncData} (E_InvalidRoot : ErrN P w K mg base "InvalidRoot" C_InvalidRoot f_InvalidRoot fd_InvalidRoot) {C_InvalidNumber f_InvalidNumber : Addr} {fd_InvalidNumber : FuncData} (E_InvalidNumber : ErrN P w K mg base "InvalidNumber" C_InvalidNumber f_InvalidNumber fd_InvalidNumber) {C_SheetError : Addr} (E_SheetError : ErrP K mg "SheetError" C_SheetError [.type "ValueError", .type "Exception", .type "BaseException", .type "object"] "ValueError" "ValueError.__new__" "ValueError.__init__") {fLawGenerator : Addr} {fdLawGenerator : FuncData} (D_LawGenerator : DefAt P w K mg base 2 "_law_generator" fLawGenerator fdLawGenerator ["_law_script", "_law_index"] (spGen K)) {fLawWrongRoots : Addr} {fdLawWrongRoots : FuncData} (D_LawWrongRoots : DefAt P w K mg base 2 "_law_wrong_roots" fLawWrongRoots fdLawWrongRoots ["_law_measure_here", "_law_root_here"] (spWrongRoots K)) {fLawRandom : Addr} {fdLawRandom : FuncData} (D_LawRandom : DefAt P w K mg base 2 "_law_random" fLawRandom fdLawRandom ["_law_generator_here", "_law_bound"] (spRandom)) {fLawDrawn : Addr} {fdLawDrawn : FuncData} (D_LawDrawn : DefAt P w K mg base 3 "_law_drawn" fLawDrawn fdLawDrawn ["_law_generator_here", "_law_measure_here", "_law_figures"] (spDrawn)) {fLawTold : Addr} {fdLawTold : FuncData} (D_LawTold : DefAt P w K mg base 7 "_law_told" fLawTold fdLawTold ["_law_door", "_law_given"] (spTold5 C_InvalidMeasure C_InvalidRoot C_InvalidNumber)) {fLawMeasure : Addr} {fdLawMeasure : FuncData} (D_LawMeasure : DefAt P w K mg base 3 "_law_measure" fLawMeasure fdLawMeasure ["_law_generator_here", "_law_figures"] (spMeasure)) {fLawAllRefused : Addr} {fdLawAllRefused : FuncData} (D_LawAllRefused : DefG P w K mg base 8 "_law_all_refused" fLawAllRefused fdLawAllRefused ["_law_doors", "_law_given", "_law_due", "_law_odd"] (spAllRefused K C_InvalidMeasure C_InvalidRoot C_InvalidNumber)) (KT : Kit3 K C_InvalidMeasure C_InvalidRoot C_InvalidNumber C_SheetError) : FnG P w K mg base 9 f fd ["_law_script"] (spLaw K) := by
  refine fnG_mk F scLaw (fun vs H Q E h => ?_) (fun cdv A outer s H vs Q E gd hr h => ?_)
  · obtain ⟨a, ns, rfl, _⟩ := h
    rfl
  · obtain ⟨a, ns, rfl, hS, hl, kk⟩ := h
    refine ⟨_, (pss_cons (ps_set (i := 1) scLaw.nd rfl (Or.inl rfl) (pe_d D_LawGenerator hr (pa_cons (pv 0) (pa_cons pe_int pa_nil))))
        (pss_cons (ps_set (i := 2) scLaw.nd rfl (Or.inr rfl) (pe_ix ixL (pe_lst (pa_cons (pe_d D_LawMeasure hr (pa_cons (pv 1) (pa_cons pe_int pa_nil))) (pa_cons pe_int (pa_cons pe_int (pa_cons pe_int pa_nil))))) (pe_d D_LawRandom hr (pa_cons (pv 1) (pa_cons pe_int pa_nil))) (fun _ _ => rfl)))
        (pss_cons (ps_asg (pe_tup (pa_cons (pe_d D_LawDrawn hr (pa_cons (pv 1) (pa_cons (pv 2) (pa_cons pe_int pa_nil)))) (pa_cons (pe_d D_LawDrawn hr (pa_cons (pv 1) (pa_cons (pv 2) (pa_cons pe_int pa_nil)))) pa_nil))) (pg_tupT 2 rfl (pgs_cons (pg_name (i := 3) scLaw.nd rfl (Or.inr rfl)) (pgs_cons (pg_name (i := 4) scLaw.nd rfl (Or.inr rfl)) pgs_nil))))
        (pss_cons (ps_for PassesOwn.never rfl (pi_list (pe_lst (pa_cons pe_non (pa_cons pe_int (pa_cons pe_int (pa_cons pe_int (pa_cons pe_int (pa_cons (pe_un un_neg pe_int) (pa_cons pe_bl (pa_cons pe_str (pa_cons (pe_lst (pa_cons pe_int pa_nil)) (pa_cons (pe_tup (pa_cons pe_int pa_nil)) (pa_cons pe_dnewK pa_nil))))))))))))) (pg_name (i := 5) scLaw.nd rfl (Or.inl rfl)) (pss_one (ps_if (pt_not (pt_val (pe_g D_LawAllRefused gd hr (pa_cons (pe_listRg rfl (by rfl) T.list (prg_1 (by rfl) T.range pe_int)) (pa_cons (pe_lst pa_nil) (pa_cons pe_str (pa_cons (pv 5) pa_nil))))))) (pss_one (ps_ret pe_bl)) pss_nil)))
        (pss_cons (ps_for PassesOwn.never rfl (pi_list (pe_d D_LawWrongRoots hr (pa_cons (pv 2) (pa_cons (pv 3) pa_nil)))) (pg_name (i := 5) scLaw.nd rfl (Or.inl rfl)) (pss_one (ps_if (PW.pt (pw_or (pt_not (pt_val (pe_g D_LawAllRefused gd hr (pa_cons (pe_listRg rfl (by rfl) T.list (prg_1 (by rfl) T.range pe_int)) (pa_cons (pe_lst (pa_cons (pv 2) pa_nil)) (pa_cons pe_str (pa_cons (pv 5) pa_nil))))))) (pw_or1 (pt_not (pt_val (pe_g D_LawAllRefused gd hr (pa_cons (pe_listRg rfl (by rfl) T.list (prg_1 (by rfl) T.range pe_int)) (pa_cons (pe_lst (pa_cons (pv 2) (pa_cons (pv 3) pa_nil))) (pa_cons pe_str (pa_cons (pv 5) pa_nil)))))))))) (pss_one (ps_ret pe_bl)) pss_nil)))
        (pss_cons (ps_for PassesOwn.never rfl (pi_list (pe_lst (pa_cons pe_non (pa_cons pe_bl (pa_cons pe_bl (pa_cons pe_str (pa_cons (pe_lst (pa_cons pe_int pa_nil)) (pa_cons (pe_tup (pa_cons pe_int pa_nil)) (pa_cons pe_dnewK pa_nil))))))))) (pg_name (i := 5) scLaw.nd rfl (Or.inl rfl)) (pss_one (ps_for PassesOwn.never rfl (pi_list (pe_lst (pa_cons (pe_lst (pa_cons (pv 2) pa_nil)) (pa_cons (pe_lst (pa_cons (pv 2) (pa_cons pe_int pa_nil))) (pa_cons (pe_lst (pa_cons (pv 2) (pa_cons pe_int (pa_cons pe_int pa_nil)))) pa_nil))))) (pg_name (i := 6) scLaw.nd rfl (Or.inl rfl)) (pss_one (ps_if (pt_not (pt_val (pe_g D_LawAllRefused gd hr (pa_cons (pe_lst (pa_cons pe_int pa_nil)) (pa_cons (pv 6) (pa_cons pe_str (pa_cons (pv 5) pa_nil))))))) (pss_one (ps_ret pe_bl)) pss_nil)))))
        (pss_cons (ps_if (PW.pt (pw_or (pt_cmpR (op_neD hr.units) (pe_d D_LawTold hr (pa_cons pe_int (pa_cons (pe_lst (pa_cons (pv 2) (pa_cons pe_int (pa_cons pe_int (pa_cons pe_int pa_nil))))) pa_nil))) (pe_lst (pa_cons pe_str (pa_cons pe_int pa_nil))) (nomark _)) (pw_or1 (pt_cmpR (op_neD hr.units) (pe_d D_LawTold hr (pa_cons pe_int (pa_cons (pe_lst (pa_cons (pv 2) (pa_cons (pv 3) (pa_cons (pe_tup (pa_cons pe_int (pa_cons pe_int (pa_cons pe_int pa_nil)))) pa_nil)))) pa_nil))) (pe_lst (pa_cons pe_str (pa_cons (pe_tup (pa_cons pe_int (pa_cons pe_int (pa_cons pe_int pa_nil)))) pa_nil))) (nomark _))))) (pss_one (ps_ret pe_bl)) pss_nil)
        (pss_cons (ps_set (i := 7) scLaw.nd rfl (Or.inr rfl) (pe_lst (pa_cons pe_int pa_nil)))
        (pss_cons (ps_setLc (i := 8) (own := [("_law_door", 11)]) (g := gName 11) (tt := tYes) rfl scLaw.nd rfl rfl (sw_true rfl rfl rfl (by decide +kernel)) (pi_range1 rfl T.range (pa_cons pe_int pa_nil)) (blkOk_by (N := N_Law) (sc := defScope s_Law) (by decide +kernel)) (fun _ _ _ _ _ => pg_name (i := 11) scLaw.nd rfl (Or.inl rfl)) (fun _ _ _ _ _ => pts_nil) (fun _ _ _ _ _ => (pe_d D_LawTold hr (pa_cons (pv 11) (pa_cons (pe_lst (pa_cons (pv 7) (pa_cons (pv 3) (pa_cons (pv 4) (pa_cons pe_int pa_nil))))) pa_nil)))))
        (pss_cons (ps_expr (pe_bm PySem.F.plainAttrs_list PySem.F.slot_list_append PySem.F.type_list_append mt_append (pv 7) (pa_cons pe_int pa_nil)))
        (pss_cons (ps_if (pt_cmpR (op_neD hr.units) (pe_lc (own := [("_law_item", 12)]) (g := gName 12) (tt := tYes) rfl scLaw.nd (pi_list (pv 8)) (blkOk_by (N := N_Law) (sc := defScope s_Law) (by decide +kernel)) (fun _ _ _ _ _ => pg_name (i := 12) scLaw.nd rfl (Or.inl rfl)) (fun _ _ _ _ _ => pts_nil) (fun _ _ _ _ _ => (pe_ix ixL (pv 12) pe_int (fun _ _ => rfl)))) (pe_op op_rep (pe_lst (pa_cons (pe_lst (pa_cons pe_int (pa_cons pe_int pa_nil))) pa_nil)) pe_int) (nomark _)) (pss_one (ps_ret pe_bl)) pss_nil)
        (pss_cons (ps_set (i := 9) scLaw.nd rfl (Or.inr rfl) (pe_ifExp (pt_cmpR (op_neD hr.units) (pe_tup (pa_cons (pe_ix ixT (pv 3) pe_int (fun _ _ => rfl)) (pa_cons (pe_ix ixT (pv 3) pe_int (fun _ _ => rfl)) pa_nil))) (pe_tup (pa_cons pe_int (pa_cons pe_int pa_nil))) (nomark _)) (pv 3) (pe_tup (pa_cons pe_int (pa_cons pe_int (pa_cons pe_int pa_nil))))))
        (pss_cons (ps_set (i := 10) scLaw.nd rfl (Or.inl rfl) (pe_op op_cat (pe_lc (own := [("_law_door", 11)]) (g := gName 11) (tt := tYes) rfl scLaw.nd (pi_range1 rfl T.range (pa_cons pe_int pa_nil)) (blkOk_by (N := N_Law) (sc := defScope s_Law) (by decide +kernel)) (fun _ _ _ _ _ => pg_name (i := 11) scLaw.nd rfl (Or.inl rfl)) (fun _ _ _ _ _ => pts_nil) (fun _ _ _ _ _ => (pe_d D_LawTold hr (pa_cons (pv 11) (pa_cons (pe_lst (pa_cons (pv 2) (pa_cons (pv 4) (pa_cons (pv 9) pa_nil)))) pa_nil))))) (pe_lc (own := [("_law_door", 11)]) (g := gName 11) (tt := tYes) rfl scLaw.nd (pi_range2 rfl T.range (pa_cons pe_int (pa_cons pe_int pa_nil))) (blkOk_by (N := N_Law) (sc := defScope s_Law) (by decide +kernel)) (fun _ _ _ _ _ => pg_name (i := 11) scLaw.nd rfl (Or.inl rfl)) (fun _ _ _ _ _ => pts_nil) (fun _ _ _ _ _ => (pe_d D_LawTold hr (pa_cons (pv 11) (pa_cons (pe_lst (pa_cons (pv 2) (pa_cons (pv 4) pa_nil))) pa_nil)))))))
        (pss_one (ps_ret (pe_and (pe_cmpR (op_eqD hr.units) (pv 10) (pe_op op_rep (pe_lst (pa_cons (pe_lst (pa_cons pe_str pa_nil)) pa_nil)) pe_int) (nomark _)) (pe_and (pe_cmpR (op_eqD hr.units) (pe_d D_LawTold hr (pa_cons pe_int (pa_cons (pe_lst (pa_cons (pv 2) (pa_cons pe_int (pa_cons pe_int (pa_cons (pe_un un_neg pe_int) pa_nil))))) pa_nil))) (pe_lst (pa_cons pe_str pa_nil)) (nomark _)) (pe_one (pe_cmpR (op_eqD hr.units) (pe_d D_LawTold hr (pa_cons pe_int (pa_cons (pe_lst (pa_cons (pv 2) (pa_cons pe_non pa_nil))) pa_nil))) (pe_lst (pa_cons pe_str pa_nil)) (nomark _)))))))))))))))))))), ?_⟩
    have e0 : start N_Law [.ref a] = [some (.ref a), none, none, none, none, none, none, none, none, none, none, none, none] := rfl
    rw [e0]
    simp only [cxK, wipe, tYes, List.map_cons, List.map_nil, rIxL, rSum, tSl, rSlL, tNoPart, tPart, exists_and_left, and_assoc, V.ref.injEq, HO.lst.injEq, HO.tup.injEq, tFor_eq, iRng1, iRng2, iList, iTup, tLc_eq, tLst, tTup, gSub, rSetL, gT, gL, gTup, gCons, gNil, atI_0, atI_1, atI_2, atI_3, List.length_cons, List.length_nil, Nat.zero_add, Nat.reduceAdd, Nat.reduceLeDiff, ixN_30, ixN_31, ixN_32, Int.reduceLT, Int.reduceLE, Int.reduceNeg, upd_same, reduceCtorEq, false_and, exists_false, or_false, false_or, tNext, tIfS, tRet, tRetN, tDrop, tAsg, gName, tPar, tPar3, tAug, ipI, tVar, tC, tOp, tUn, tCB, tD, tDK, tCons, tNil, rI, rI0, rU, tB, tTest, tCallS, tErr, tAnd, tOr, tNot, tAndV, tOrV, tNotV, tIf, rEq, rNe, scal_ii, scal_bb, scal_ss, rGcd_eq, tBits, List.set_cons_zero, List.set_cons_succ, List.getElem?_cons_zero, List.getElem?_cons_succ, Option.some.injEq, exists_eq_left', V.int.injEq, V.bl.injEq, V.str.injEq, true_and, and_true, decide_eq_true_eq, List.cons.injEq, exists_eq_left, Bool.false_eq_true, if_false, if_true, ite_true, ite_false, Bool.not_eq_true', decide_eq_false_iff_not, Bool.not_not]
    refine seq_gen fun C1 hC1 => ?_
    simp only [cxK, wipe, tYes, List.map_cons, List.map_nil, rIxL, rSum, tSl, rSlL, tNoPart, tPart, exists_and_left, and_assoc, V.ref.injEq, HO.lst.injEq, HO.tup.injEq, tFor_eq, iRng1, iRng2, iList, iTup, tLc_eq, tLst, tTup, gSub, rSetL, gT, gL, gTup, gCons, gNil, atI_0, atI_1, atI_2, atI_3, List.length_cons, List.length_nil, Nat.zero_add, Nat.reduceAdd, Nat.reduceLeDiff, ixN_30, ixN_31, ixN_32, Int.reduceLT, Int.reduceLE, Int.reduceNeg, upd_same, reduceCtorEq, false_and, exists_false, or_false, false_or, tNext, tIfS, tRet, tRetN, tDrop, tAsg, gName, tPar, tPar3, tAug, ipI, tVar, tC, tOp, tUn, tCB, tD, tDK, tCons, tNil, rI, rI0, rU, tB, tTest, tCallS, tErr, tAnd, tOr, tNot, tAndV, tOrV, tNotV, tIf, rEq, rNe, scal_ii, scal_bb, scal_ss, rGcd_eq, tBits, List.set_cons_zero, List.set_cons_succ, List.getElem?_cons_zero, List.getElem?_cons_succ, Option.some.injEq, exists_eq_left', V.int.injEq, V.bl.injEq, V.str.injEq, true_and, and_true, decide_eq_true_eq, List.cons.injEq, exists_eq_left, Bool.false_eq_true, if_false, if_true, ite_true, ite_false, Bool.not_eq_true', decide_eq_false_iff_not, Bool.not_not]
    refine ⟨a, ns, 0, rfl, hS, by decide, by decide, fun g H0 ng s0 G0 => ?_⟩
    refine Eq.mpr (hC1 _ _) ?_
    refine seq_gen fun C2 hC2 => ?_
    simp only [cxK, wipe, tYes, List.map_cons, List.map_nil, rIxL, rSum, tSl, rSlL, tNoPart, tPart, exists_and_left, and_assoc, V.ref.injEq, HO.lst.injEq, HO.tup.injEq, tFor_eq, iRng1, iRng2, iList, iTup, tLc_eq, tLst, tTup, gSub, rSetL, gT, gL, gTup, gCons, gNil, atI_0, atI_1, atI_2, atI_3, List.length_cons, List.length_nil, Nat.zero_add, Nat.reduceAdd, Nat.reduceLeDiff, ixN_30, ixN_31, ixN_32, Int.reduceLT, Int.reduceLE, Int.reduceNeg, upd_same, reduceCtorEq, false_and, exists_false, or_false, false_or, tNext, tIfS, tRet, tRetN, tDrop, tAsg, gName, tPar, tPar3, tAug, ipI, tVar, tC, tOp, tUn, tCB, tD, tDK, tCons, tNil, rI, rI0, rU, tB, tTest, tCallS, tErr, tAnd, tOr, tNot, tAndV, tOrV, tNotV, tIf, rEq, rNe, scal_ii, scal_bb, scal_ss, rGcd_eq, tBits, List.set_cons_zero, List.set_cons_succ, List.getElem?_cons_zero, List.getElem?_cons_succ, Option.some.injEq, exists_eq_left', V.int.injEq, V.bl.injEq, V.str.injEq, true_and, and_true, decide_eq_true_eq, List.cons.injEq, exists_eq_left, Bool.false_eq_true, if_false, if_true, ite_true, ite_false, Bool.not_eq_true', decide_eq_false_iff_not, Bool.not_not]
    refine ⟨g, 28, _, rfl, G0, by decide, by decide, by decide, fun D0 H1 hM0 hD0 G1 K1 => ?_⟩
    refine ⟨by decide, fun q nq => ?_⟩
    have hqg := G1.nn nq
    refine ⟨g, 4, _, rfl, G1.same (Same.upd nq), by decide, by decide, by decide, fun r H2 hr0 hr1 G2 K2 => ?_⟩
    obtain ⟨D, hM, hD, hix⟩ : ∃ D : Int, Meas D ∧ D < 2 ^ 200 ∧ atI [V.int D0, V.int 9, V.int 5, V.int 16] r = some (.int D) := by
      rcases (show r = 0 ∨ r = 1 ∨ r = 2 ∨ r = 3 by omega) with rfl | rfl | rfl | rfl
      · exact ⟨D0, hM0, hD0, atI_0⟩
      · exact ⟨9, ⟨by decide, by decide⟩, by decide, atI_1⟩
      · exact ⟨5, ⟨by decide, by decide⟩, by decide, atI_2⟩
      · exact ⟨16, ⟨by decide, by decide⟩, by decide, atI_3⟩
    refine ⟨_, r, rfl, K2 q _ hqg upd_same, .int D, hix, ?_⟩
    have h5 := hM.1
    refine Eq.mpr (hC2 _ _) ?_
    refine seq_gen fun C3 hC3 => ?_
    simp only [cxK, wipe, tYes, List.map_cons, List.map_nil, rIxL, rSum, tSl, rSlL, tNoPart, tPart, exists_and_left, and_assoc, V.ref.injEq, HO.lst.injEq, HO.tup.injEq, tFor_eq, iRng1, iRng2, iList, iTup, tLc_eq, tLst, tTup, gSub, rSetL, gT, gL, gTup, gCons, gNil, atI_0, atI_1, atI_2, atI_3, List.length_cons, List.length_nil, Nat.zero_add, Nat.reduceAdd, Nat.reduceLeDiff, ixN_30, ixN_31, ixN_32, Int.reduceLT, Int.reduceLE, Int.reduceNeg, upd_same, reduceCtorEq, false_and, exists_false, or_false, false_or, tNext, tIfS, tRet, tRetN, tDrop, tAsg, gName, tPar, tPar3, tAug, ipI, tVar, tC, tOp, tUn, tCB, tD, tDK, tCons, tNil, rI, rI0, rU, tB, tTest, tCallS, tErr, tAnd, tOr, tNot, tAndV, tOrV, tNotV, tIf, rEq, rNe, scal_ii, scal_bb, scal_ss, rGcd_eq, tBits, List.set_cons_zero, List.set_cons_succ, List.getElem?_cons_zero, List.getElem?_cons_succ, Option.some.injEq, exists_eq_left', V.int.injEq, V.bl.injEq, V.str.injEq, true_and, and_true, decide_eq_true_eq, List.cons.injEq, exists_eq_left, Bool.false_eq_true, if_false, if_true, ite_true, ite_false, Bool.not_eq_true', decide_eq_false_iff_not, Bool.not_not]
    refine ⟨g, D, 8, _, rfl, G2, by decide, by omega, by omega, by decide, by decide, fun x1 y1 b1 po H3 bx1 by1 bb1 bb1' npo e3 G3 K3 => ?_⟩
    refine ⟨g, D, 8, _, rfl, G3, by decide, by omega, by omega, by decide, by decide, fun x2 y2 b2 pt H4 bx2 by2 bb2 bb2' npt e4 G4 K4 => ?_⟩
    obtain ⟨t, ro, zo⟩ : ∃ t, RootAt D H4 po t ∧ Sz 251 t := ⟨_, K4.root G3 (RootAt.least e3 (by omega)), least_sz (by omega) hD bx1 by1 (by omega) (by omega)⟩
    obtain ⟨u, rt, zt⟩ : ∃ u, RootAt D H4 pt u ∧ Sz 251 u := ⟨_, RootAt.least e4 (by omega), least_sz (by omega) hD bx2 by2 (by omega) (by omega)⟩
    clear e3 e4
    refine ⟨by decide, fun pp npp => ?_⟩
    have ro5 := ro.same (Same.upd (o := .tup [V.ref po, V.ref pt]) npp)
    have rt5 := rt.same (Same.upd (o := .tup [V.ref po, V.ref pt]) npp)
    have e5 : upd H4 pp (.tup [V.ref po, V.ref pt]) pp = some (.tup [V.ref po, V.ref pt]) := upd_same
    generalize upd H4 pp (.tup [V.ref po, V.ref pt]) = h at *
    obtain ⟨ne1, ne2, ne3⟩ := KT.ne
    have gD : ∀ H', GOk H' (.int D) := fun H' => gOk_int (by omega)
    refine Eq.mpr (hC3 _ _) ?_
    refine seq_gen fun C4 hC4 => ?_
    simp only [cxK, wipe, tYes, List.map_cons, List.map_nil, rIxL, rSum, tSl, rSlL, tNoPart, tPart, exists_and_left, and_assoc, V.ref.injEq, HO.lst.injEq, HO.tup.injEq, tFor_eq, iRng1, iRng2, iList, iTup, tLc_eq, tLst, tTup, gSub, rSetL, gT, gL, gTup, gCons, gNil, atI_0, atI_1, atI_2, atI_3, List.length_cons, List.length_nil, Nat.zero_add, Nat.reduceAdd, Nat.reduceLeDiff, ixN_30, ixN_31, ixN_32, Int.reduceLT, Int.reduceLE, Int.reduceNeg, upd_same, reduceCtorEq, false_and, exists_false, or_false, false_or, tNext, tIfS, tRet, tRetN, tDrop, tAsg, gName, tPar, tPar3, tAug, ipI, tVar, tC, tOp, tUn, tCB, tD, tDK, tCons, tNil, rI, rI0, rU, tB, tTest, tCallS, tErr, tAnd, tOr, tNot, tAndV, tOrV, tNotV, tIf, rEq, rNe, scal_ii, scal_bb, scal_ss, rGcd_eq, tBits, List.set_cons_zero, List.set_cons_succ, List.getElem?_cons_zero, List.getElem?_cons_succ, Option.some.injEq, exists_eq_left', V.int.injEq, V.bl.injEq, V.str.injEq, true_and, and_true, decide_eq_true_eq, List.cons.injEq, exists_eq_left, Bool.false_eq_true, if_false, if_true, ite_true, ite_false, Bool.not_eq_true', decide_eq_false_iff_not, Bool.not_not, tDNewK]
    refine ⟨by decide, fun p1 n1 => ⟨by decide, fun p2 n2 p3 n3 => ⟨by decide, fun L nL => ?_⟩⟩⟩
    obtain ⟨h1, hh⟩ : ∃ h1, h1 = upd (upd (upd (upd h p1 (.lst [.int 5])) p2 (.tup [.int 5])) p3 (.dK [])) L (.lst [.non, .int 0, .int 4, .int 6, .int 7, .int (-3), .bl true, .str (Str.ofString "5"), .ref p1, .ref p2, .ref p3]) := ⟨_, rfl⟩
    rw [← hh]
    have eL : h1 L = some (.lst [.non, .int 0, .int 4, .int 6, .int 7, .int (-3), .bl true, .str (Str.ofString "5"), .ref p1, .ref p2, .ref p3]) := by rw [hh]; exact upd_same
    have f3 : h1 p3 = some (.dK []) := by rw [hh, upd_ne (ne_new nL)]; exact upd_same
    have f2 : h1 p2 = some (.tup [.int 5]) := by rw [hh]; exact (Same.upd nL) _ _ ((Same.upd n3) _ _ upd_same)
    have f1 : h1 p1 = some (.lst [.int 5]) := by rw [hh]; exact (Same.upd nL) _ _ ((Same.upd n3) _ _ ((Same.upd n2) _ _ upd_same))
    have s1 : Same h h1 := by rw [hh]; exact (((Same.upd n1).trans (Same.upd n2)).trans (Same.upd n3)).trans (Same.upd nL)
    clear hh
    have items : ∀ x ∈ [V.non, .int 0, .int 4, .int 6, .int 7, .int (-3), .bl true, .str (Str.ofString "5"), .ref p1, .ref p2, .ref p3], BadMeas K h1 x := by
      intro x hx
      simp only [List.mem_cons, List.not_mem_nil, or_false] at hx
      rcases hx with rfl | rfl | rfl | rfl | rfl | rfl | rfl | rfl | rfl | rfl | rfl
      · exact (bad_non (D := 5)).meas rfl
      · exact (bad_int (D := 5) (by decide)).meas (by decide)
      · exact (bad_int (D := 5) (by decide)).meas (by decide)
      · exact (bad_int (D := 5) (by decide)).meas (by decide)
      · exact (bad_int (D := 5) (by decide)).meas (by decide)
      · exact (bad_int (D := 5) (by decide)).meas (by decide)
      · exact (bad_bl (D := 5)).meas rfl
      · exact (bad_str (D := 5) ⟨by decide +kernel, by decide +kernel, by decide +kernel⟩).meas rfl
      · exact (bad_lst (D := 5) f1 (.cons (.int (n := 10) (by decide) (by decide)) .nil) (Nat.le_of_ble_eq_true rfl) (Nat.le_of_ble_eq_true rfl)).meas rfl
      · exact (bad_tup (D := 5) f2 (.cons (.int (n := 10) (by decide) (by decide)) .nil) (Nat.le_of_ble_eq_true rfl) (Nat.le_of_ble_eq_true rfl) (fun i hi => by simp only [List.mem_cons, V.int.injEq, List.not_mem_nil, or_false] at hi; rw [hi]; decide) rfl).meas rfl
      · exact (bad_dict (D := 5) f3).meas rfl
    refine ⟨⟨_, SqL.of eL⟩, ?_⟩
    refine forW_list (xs := [.non, .int 0, .int 4, .int 6, .int 7, .int (-3), .bl true, .str (Str.ofString "5"), .ref p1, .ref p2, .ref p3]) (InvL5 a g D po pt h1) ⟨none, none, rfl, Same.refl _⟩ (fun j σ2 HB _ z => ?_) ?_ ?_
    · obtain ⟨_, _, _, sB⟩ := z
      exact SqL.of (sB _ _ eL)
    · rintro j v σ2 HB hv ⟨t5, t6, rfl, sB⟩
      obtain ⟨d, hO, hm⟩ := (items v (List.mem_of_getElem? hv)).same sB
      simp only [cxK, wipe, tYes, List.map_cons, List.map_nil, rIxL, rSum, tSl, rSlL, tNoPart, tPart, exists_and_left, and_assoc, V.ref.injEq, HO.lst.injEq, HO.tup.injEq, tFor_eq, iRng1, iRng2, iList, iTup, tLc_eq, tLst, tTup, gSub, rSetL, gT, gL, gTup, gCons, gNil, atI_0, atI_1, atI_2, atI_3, List.length_cons, List.length_nil, Nat.zero_add, Nat.reduceAdd, Nat.reduceLeDiff, ixN_30, ixN_31, ixN_32, Int.reduceLT, Int.reduceLE, Int.reduceNeg, upd_same, reduceCtorEq, false_and, exists_false, or_false, false_or, tNext, tIfS, tRet, tRetN, tDrop, tAsg, gName, tPar, tPar3, tAug, ipI, tVar, tC, tOp, tUn, tCB, tD, tDK, tCons, tNil, rI, rI0, rU, tB, tTest, tCallS, tErr, tAnd, tOr, tNot, tAndV, tOrV, tNotV, tIf, rEq, rNe, scal_ii, scal_bb, scal_ss, rGcd_eq, tBits, List.set_cons_zero, List.set_cons_succ, List.getElem?_cons_zero, List.getElem?_cons_succ, Option.some.injEq, exists_eq_left', V.int.injEq, V.bl.injEq, V.str.injEq, true_and, and_true, decide_eq_true_eq, List.cons.injEq, exists_eq_left, Bool.false_eq_true, if_false, if_true, ite_true, ite_false, Bool.not_eq_true', decide_eq_false_iff_not, Bool.not_not, tLstRg, tRg1]
      refine ⟨.of_le (by decide) (by decide) (by decide) (by decide), fun q1 m1 => ⟨by decide, fun q2 m2 => ?_⟩⟩
      have sC := (Same.upd (o := .lst (rgV 0 8)) m1).trans (Same.upd (o := .lst []) m2)
      refine ⟨q1, q2, _, v, List.range 8, [], d, rfl, (Same.upd m2) _ _ (by rw [upd_same]; exact congrArg (fun l => some (HO.lst l)) (rg0 8)), upd_same, by decide, fun k hk => mem_range_lt hk, by decide, due_m, hO.same sC, refused_mk gOk_nil (hO.same sC) (fun H' b _ k _ => asked_m hm k) told_m, fun HC s2 => ⟨true, rfl, ?_⟩⟩
      rw [if_neg (by decide)]
      exact ⟨_, _, rfl, (sB.trans sC).trans s2⟩
    rintro σ2 h2 ⟨t5, t6, rfl, sB⟩
    have s2 := s1.trans sB
    have ro2 := ro5.same s2
    have rt2 := rt5.same s2
    refine Eq.mpr (hC4 _ _) ?_
    refine seq_gen fun C5 hC5 => ?_
    simp only [cxK, wipe, tYes, List.map_cons, List.map_nil, rIxL, rSum, tSl, rSlL, tNoPart, tPart, exists_and_left, and_assoc, V.ref.injEq, HO.lst.injEq, HO.tup.injEq, tFor_eq, iRng1, iRng2, iList, iTup, tLc_eq, tLst, tTup, gSub, rSetL, gT, gL, gTup, gCons, gNil, atI_0, atI_1, atI_2, atI_3, List.length_cons, List.length_nil, Nat.zero_add, Nat.reduceAdd, Nat.reduceLeDiff, ixN_30, ixN_31, ixN_32, Int.reduceLT, Int.reduceLE, Int.reduceNeg, upd_same, reduceCtorEq, false_and, exists_false, or_false, false_or, tNext, tIfS, tRet, tRetN, tDrop, tAsg, gName, tPar, tPar3, tAug, ipI, tVar, tC, tOp, tUn, tCB, tD, tDK, tCons, tNil, rI, rI0, rU, tB, tTest, tCallS, tErr, tAnd, tOr, tNot, tAndV, tOrV, tNotV, tIf, rEq, rNe, scal_ii, scal_bb, scal_ss, rGcd_eq, tBits, List.set_cons_zero, List.set_cons_succ, List.getElem?_cons_zero, List.getElem?_cons_succ, Option.some.injEq, exists_eq_left', V.int.injEq, V.bl.injEq, V.str.injEq, true_and, and_true, decide_eq_true_eq, List.cons.injEq, exists_eq_left, Bool.false_eq_true, if_false, if_true, ite_true, ite_false, Bool.not_eq_true', decide_eq_false_iff_not, Bool.not_not]
    refine ⟨D, po, t, rfl, hM, hD, ro2, zo, fun L2 h3 xs s3 eL2 items2 => ?_⟩
    refine ⟨L2, rfl, ⟨_, SqL.of eL2⟩, ?_⟩
    refine forW_list (xs := xs) (InvL5 a g D po pt h3) ⟨t5, t6, rfl, Same.refl _⟩ (fun j σ2 HB _ z => ?_) ?_ ?_
    · obtain ⟨_, _, _, sB⟩ := z
      exact SqL.of (sB _ _ eL2)
    · rintro j v σ2 HB hv ⟨t5, t6, rfl, sB⟩
      obtain ⟨d, hO, hm⟩ := (items2 v (List.mem_of_getElem? hv)).same sB
      simp only [cxK, wipe, tYes, List.map_cons, List.map_nil, rIxL, rSum, tSl, rSlL, tNoPart, tPart, exists_and_left, and_assoc, V.ref.injEq, HO.lst.injEq, HO.tup.injEq, tFor_eq, iRng1, iRng2, iList, iTup, tLc_eq, tLst, tTup, gSub, rSetL, gT, gL, gTup, gCons, gNil, atI_0, atI_1, atI_2, atI_3, List.length_cons, List.length_nil, Nat.zero_add, Nat.reduceAdd, Nat.reduceLeDiff, ixN_30, ixN_31, ixN_32, Int.reduceLT, Int.reduceLE, Int.reduceNeg, upd_same, reduceCtorEq, false_and, exists_false, or_false, false_or, tNext, tIfS, tRet, tRetN, tDrop, tAsg, gName, tPar, tPar3, tAug, ipI, tVar, tC, tOp, tUn, tCB, tD, tDK, tCons, tNil, rI, rI0, rU, tB, tTest, tCallS, tErr, tAnd, tOr, tNot, tAndV, tOrV, tNotV, tIf, rEq, rNe, scal_ii, scal_bb, scal_ss, rGcd_eq, tBits, List.set_cons_zero, List.set_cons_succ, List.getElem?_cons_zero, List.getElem?_cons_succ, Option.some.injEq, exists_eq_left', V.int.injEq, V.bl.injEq, V.str.injEq, true_and, and_true, decide_eq_true_eq, List.cons.injEq, exists_eq_left, Bool.false_eq_true, if_false, if_true, ite_true, ite_false, Bool.not_eq_true', decide_eq_false_iff_not, Bool.not_not, tLstRg, tRg1]
      refine ⟨.of_le (by decide) (by decide) (by decide) (by decide), fun q1 m1 => ⟨by decide, fun q2 m2 => ?_⟩⟩
      have sC := (Same.upd (o := .lst (rgV 0 6)) m1).trans (Same.upd (o := .lst [.int D]) m2)
      have hm2 : ∀ H', Same (upd (upd HB q1 (.lst (rgV 0 6))) q2 (.lst [.int D])) H' → rootB D H' v = false := fun H' s => by rw [rootB_same (sC.trans s) hO.ok.1]; exact hm
      refine ⟨q1, q2, _, v, List.range 6, [.int D], d, rfl, (Same.upd m2) _ _ (by rw [upd_same]; exact congrArg (fun l => some (HO.lst l)) (rg0 6)), upd_same, Nat.le_of_ble_eq_true rfl, fun k hk => Nat.lt_trans (mem_range_lt hk) (by decide), by decide, due_r, hO.same sC, refused_mk (gOk_cons (gD _) gOk_nil) (hO.same sC) (fun H' b s k hk => asked_r1 hM (hm2 H' s) (mem_range_lt hk)) (told_r ne1), fun HC sD => ⟨true, rfl, ?_⟩⟩
      rw [if_neg (by decide)]
      have sE := (sB.trans sC).trans sD
      refine ⟨.of_le (by decide) (by decide) (by decide) (by decide), fun q3 m3 => ⟨by decide, fun q4 m4 => ?_⟩⟩
      have sF := (Same.upd (o := .lst (rgV 0 4)) m3).trans (Same.upd (o := .lst [.int D, .ref po]) m4)
      have sG := (sC.trans sD).trans sF
      have ro6 := ro2.same ((s3.trans sB).trans sG)
      have hm3 : ∀ H', Same (upd (upd HC q3 (.lst (rgV 0 4))) q4 (.lst [.int D, .ref po])) H' → rootB D H' v = false := fun H' s => by rw [rootB_same (sG.trans s) hO.ok.1]; exact hm
      refine ⟨q3, q4, _, v, List.range 4, [.int D, .ref po], d, rfl, (Same.upd m4) _ _ (by rw [upd_same]; exact congrArg (fun l => some (HO.lst l)) (rg0 4)), upd_same, Nat.le_of_ble_eq_true rfl, fun k hk => Nat.lt_trans (mem_range_lt hk) (by decide), by decide, due_r, hO.same sG, refused_mk (gOk_cons (gD _) (gOk_cons (gOk_root ro6 (zo.up (by decide))) gOk_nil)) (hO.same sG) (fun H' b s k hk => asked_r2 hM (ro6.same s).isRoot (hm3 H' s) (mem_range_lt hk)) (told_r ne1), fun HD sH => ⟨true, rfl, ?_⟩⟩
      rw [if_neg (by decide)]
      exact ⟨_, _, rfl, (sB.trans sG).trans sH⟩
    rintro σ2 h4 ⟨t5, t6, rfl, sB⟩
    have s4 := (s2.trans s3).trans sB
    refine Eq.mpr (hC5 _ _) ?_
    refine seq_gen fun C6 hC6 => ?_
    simp only [cxK, wipe, tYes, List.map_cons, List.map_nil, rIxL, rSum, tSl, rSlL, tNoPart, tPart, exists_and_left, and_assoc, V.ref.injEq, HO.lst.injEq, HO.tup.injEq, tFor_eq, iRng1, iRng2, iList, iTup, tLc_eq, tLst, tTup, gSub, rSetL, gT, gL, gTup, gCons, gNil, atI_0, atI_1, atI_2, atI_3, List.length_cons, List.length_nil, Nat.zero_add, Nat.reduceAdd, Nat.reduceLeDiff, ixN_30, ixN_31, ixN_32, Int.reduceLT, Int.reduceLE, Int.reduceNeg, upd_same, reduceCtorEq, false_and, exists_false, or_false, false_or, tNext, tIfS, tRet, tRetN, tDrop, tAsg, gName, tPar, tPar3, tAug, ipI, tVar, tC, tOp, tUn, tCB, tD, tDK, tCons, tNil, rI, rI0, rU, tB, tTest, tCallS, tErr, tAnd, tOr, tNot, tAndV, tOrV, tNotV, tIf, rEq, rNe, scal_ii, scal_bb, scal_ss, rGcd_eq, tBits, List.set_cons_zero, List.set_cons_succ, List.getElem?_cons_zero, List.getElem?_cons_succ, Option.some.injEq, exists_eq_left', V.int.injEq, V.bl.injEq, V.str.injEq, true_and, and_true, decide_eq_true_eq, List.cons.injEq, exists_eq_left, Bool.false_eq_true, if_false, if_true, ite_true, ite_false, Bool.not_eq_true', decide_eq_false_iff_not, Bool.not_not, tDNewK]
    refine ⟨by decide, fun p1 n1 => ⟨by decide, fun p2 n2 p3 n3 => ⟨by decide, fun L3 nL => ?_⟩⟩⟩
    obtain ⟨h5, hh⟩ : ∃ h5, h5 = upd (upd (upd (upd h4 p1 (.lst [.int 1])) p2 (.tup [.int 1])) p3 (.dK [])) L3 (.lst [.non, .bl true, .bl false, .str (Str.ofString "1"), .ref p1, .ref p2, .ref p3]) := ⟨_, rfl⟩
    rw [← hh]
    have eL3 : h5 L3 = some (.lst [.non, .bl true, .bl false, .str (Str.ofString "1"), .ref p1, .ref p2, .ref p3]) := by rw [hh]; exact upd_same
    have f3 : h5 p3 = some (.dK []) := by rw [hh, upd_ne (ne_new nL)]; exact upd_same
    have f2 : h5 p2 = some (.tup [.int 1]) := by rw [hh]; exact (Same.upd nL) _ _ ((Same.upd n3) _ _ upd_same)
    have f1 : h5 p1 = some (.lst [.int 1]) := by rw [hh]; exact (Same.upd nL) _ _ ((Same.upd n3) _ _ ((Same.upd n2) _ _ upd_same))
    have s5 : Same h4 h5 := by rw [hh]; exact (((Same.upd n1).trans (Same.upd n2)).trans (Same.upd n3)).trans (Same.upd nL)
    clear hh
    have items3 : ∀ x ∈ [V.non, .bl true, .bl false, .str (Str.ofString "1"), .ref p1, .ref p2, .ref p3], BadNum K h5 x := by
      intro x hx
      simp only [List.mem_cons, List.not_mem_nil, or_false] at hx
      rcases hx with rfl | rfl | rfl | rfl | rfl | rfl | rfl
      · exact (bad_non (D := 5)).odd rfl
      · exact (bad_bl (D := 5)).odd rfl
      · exact (bad_bl (D := 5)).odd rfl
      · exact (bad_str (D := 5) ⟨by decide +kernel, by decide +kernel, by decide +kernel⟩).odd rfl
      · exact (bad_lst (D := 5) f1 (.cons (.int (n := 10) (by decide) (by decide)) .nil) (Nat.le_of_ble_eq_true rfl) (Nat.le_of_ble_eq_true rfl)).odd rfl
      · exact (bad_tup (D := 5) f2 (.cons (.int (n := 10) (by decide) (by decide)) .nil) (Nat.le_of_ble_eq_true rfl) (Nat.le_of_ble_eq_true rfl) (fun i hi => by simp only [List.mem_cons, V.int.injEq, List.not_mem_nil, or_false] at hi; rw [hi]; decide) rfl).odd rfl
      · exact (bad_dict (D := 5) f3).odd rfl
    refine ⟨⟨_, SqL.of eL3⟩, ?_⟩
    refine forW_list (xs := [.non, .bl true, .bl false, .str (Str.ofString "1"), .ref p1, .ref p2, .ref p3]) (InvL5 a g D po pt h5) ⟨t5, t6, rfl, Same.refl _⟩ (fun j σ2 HB _ z => ?_) ?_ ?_
    · obtain ⟨_, _, _, sB⟩ := z
      exact SqL.of (sB _ _ eL3)
    · rintro j v σ2 HB hv ⟨t5, t6, rfl, sB⟩
      obtain ⟨d, hO, hm⟩ := (items3 v (List.mem_of_getElem? hv)).same sB
      simp only [cxK, wipe, tYes, List.map_cons, List.map_nil, rIxL, rSum, tSl, rSlL, tNoPart, tPart, exists_and_left, and_assoc, V.ref.injEq, HO.lst.injEq, HO.tup.injEq, tFor_eq, iRng1, iRng2, iList, iTup, tLc_eq, tLst, tTup, gSub, rSetL, gT, gL, gTup, gCons, gNil, atI_0, atI_1, atI_2, atI_3, List.length_cons, List.length_nil, Nat.zero_add, Nat.reduceAdd, Nat.reduceLeDiff, ixN_30, ixN_31, ixN_32, Int.reduceLT, Int.reduceLE, Int.reduceNeg, upd_same, reduceCtorEq, false_and, exists_false, or_false, false_or, tNext, tIfS, tRet, tRetN, tDrop, tAsg, gName, tPar, tPar3, tAug, ipI, tVar, tC, tOp, tUn, tCB, tD, tDK, tCons, tNil, rI, rI0, rU, tB, tTest, tCallS, tErr, tAnd, tOr, tNot, tAndV, tOrV, tNotV, tIf, rEq, rNe, scal_ii, scal_bb, scal_ss, rGcd_eq, tBits, List.set_cons_zero, List.set_cons_succ, List.getElem?_cons_zero, List.getElem?_cons_succ, Option.some.injEq, exists_eq_left', V.int.injEq, V.bl.injEq, V.str.injEq, true_and, and_true, decide_eq_true_eq, List.cons.injEq, exists_eq_left, Bool.false_eq_true, if_false, if_true, ite_true, ite_false, Bool.not_eq_true', decide_eq_false_iff_not, Bool.not_not]
      refine ⟨by decide, fun q1 m1 => ⟨by decide, fun q2 m2 => ⟨by decide, fun q3 m3 => ⟨by decide, fun q4 m4 => ?_⟩⟩⟩⟩
      obtain ⟨k1, hh⟩ : ∃ k1, k1 = upd (upd (upd (upd HB q1 (.lst [.int D])) q2 (.lst [.int D, .int 1])) q3 (.lst [.int D, .int 1, .int 2])) q4 (.lst [.ref q1, .ref q2, .ref q3]) := ⟨_, rfl⟩
      rw [← hh]
      have g4 : k1 q4 = some (.lst [.ref q1, .ref q2, .ref q3]) := by rw [hh]; exact upd_same
      have g3 : k1 q3 = some (.lst [.int D, .int 1, .int 2]) := by rw [hh]; exact (Same.upd m4) _ _ upd_same
      have g2 : k1 q2 = some (.lst [.int D, .int 1]) := by rw [hh]; exact (Same.upd m4) _ _ ((Same.upd m3) _ _ upd_same)
      have g1 : k1 q1 = some (.lst [.int D]) := by rw [hh]; exact (Same.upd m4) _ _ ((Same.upd m3) _ _ ((Same.upd m2) _ _ upd_same))
      have sk : Same HB k1 := by rw [hh]; exact (((Same.upd m1).trans (Same.upd m2)).trans (Same.upd m3)).trans (Same.upd m4)
      clear hh
      refine ⟨⟨_, SqL.of g4⟩, ?_⟩
      refine forW_list (xs := [.ref q1, .ref q2, .ref q3]) (InvL5i a g D po pt v k1) ⟨t6, rfl, Same.refl _⟩ (fun j σ2 HB _ z => ?_) ?_ ?_
      · obtain ⟨_, _, sB⟩ := z
        exact SqL.of (sB _ _ g4)
      · rintro j2 gvv σ3 HC hgv ⟨t6, rfl, sC⟩
        obtain ⟨gv, gl, rfl, egl, hgl, gok, hoc⟩ : ∃ gv gl, gvv = V.ref gv ∧ HC gv = some (.lst gl) ∧ gl.length ≤ 4 ∧ (∀ H', ∀ x ∈ gl, GOk H' x) ∧ ∀ H' b, ocAsked C_InvalidMeasure C_InvalidRoot C_InvalidNumber H' 7 (gl ++ [v] ++ [b, b, b]) = .err C_InvalidNumber v := by
          have hmem := List.mem_of_getElem? hgv
          simp only [List.mem_cons, List.not_mem_nil, or_false] at hmem
          rcases hmem with rfl | rfl | rfl
          · exact ⟨q1, _, rfl, sC _ _ g1, Nat.le_of_ble_eq_true rfl, fun H' => gOk_cons (gD _) gOk_nil, fun H' b => asked_n1 hM hm⟩
          · exact ⟨q2, _, rfl, sC _ _ g2, Nat.le_of_ble_eq_true rfl, fun H' => gOk_cons (gD _) (gOk_cons (gOk_int (by decide)) gOk_nil), fun H' b => asked_n2 hM hm⟩
          · exact ⟨q3, _, rfl, sC _ _ g3, Nat.le_of_ble_eq_true rfl, fun H' => gOk_cons (gD _) (gOk_cons (gOk_int (by decide)) (gOk_cons (gOk_int (by decide)) gOk_nil)), fun H' b => asked_n3 hM hm⟩
        simp only [cxK, wipe, tYes, List.map_cons, List.map_nil, rIxL, rSum, tSl, rSlL, tNoPart, tPart, exists_and_left, and_assoc, V.ref.injEq, HO.lst.injEq, HO.tup.injEq, tFor_eq, iRng1, iRng2, iList, iTup, tLc_eq, tLst, tTup, gSub, rSetL, gT, gL, gTup, gCons, gNil, atI_0, atI_1, atI_2, atI_3, List.length_cons, List.length_nil, Nat.zero_add, Nat.reduceAdd, Nat.reduceLeDiff, ixN_30, ixN_31, ixN_32, Int.reduceLT, Int.reduceLE, Int.reduceNeg, upd_same, reduceCtorEq, false_and, exists_false, or_false, false_or, tNext, tIfS, tRet, tRetN, tDrop, tAsg, gName, tPar, tPar3, tAug, ipI, tVar, tC, tOp, tUn, tCB, tD, tDK, tCons, tNil, rI, rI0, rU, tB, tTest, tCallS, tErr, tAnd, tOr, tNot, tAndV, tOrV, tNotV, tIf, rEq, rNe, scal_ii, scal_bb, scal_ss, rGcd_eq, tBits, List.set_cons_zero, List.set_cons_succ, List.getElem?_cons_zero, List.getElem?_cons_succ, Option.some.injEq, exists_eq_left', V.int.injEq, V.bl.injEq, V.str.injEq, true_and, and_true, decide_eq_true_eq, List.cons.injEq, exists_eq_left, Bool.false_eq_true, if_false, if_true, ite_true, ite_false, Bool.not_eq_true', decide_eq_false_iff_not, Bool.not_not]
        refine ⟨by decide, fun q5 m5 => ?_⟩
        have sD := Same.upd (o := .lst [.int 7]) m5
        have hO2 := (hO.same (sk.trans sC)).same sD
        refine ⟨q5, gv, _, v, [7], gl, d, rfl, upd_same, sD _ _ egl, hgl, fun k hk => by rw [List.mem_singleton] at hk; omega, by decide, due_n, hO2, refused_mk (gok _) hO2 (fun H' b s k hk => by rw [List.mem_singleton] at hk; subst hk; exact hoc H' b) (told_n ne2 ne3), fun HD sE => ⟨true, rfl, ?_⟩⟩
        rw [if_neg (by decide)]
        exact ⟨_, rfl, (sC.trans sD).trans sE⟩
      · rintro σ3 HC ⟨t6, rfl, sC⟩
        exact ⟨_, _, rfl, (sB.trans sk).trans sC⟩
    rintro σ2 h6 ⟨t5, t6, rfl, sB⟩
    have s6 := (s4.trans s5).trans sB
    refine Eq.mpr (hC6 _ _) ?_
    refine seq_gen fun C7 hC7 => ?_
    simp only [cxK, wipe, tYes, List.map_cons, List.map_nil, rIxL, rSum, tSl, rSlL, tNoPart, tPart, exists_and_left, and_assoc, V.ref.injEq, HO.lst.injEq, HO.tup.injEq, tFor_eq, iRng1, iRng2, iList, iTup, tLc_eq, tLst, tTup, gSub, rSetL, gT, gL, gTup, gCons, gNil, atI_0, atI_1, atI_2, atI_3, List.length_cons, List.length_nil, Nat.zero_add, Nat.reduceAdd, Nat.reduceLeDiff, ixN_30, ixN_31, ixN_32, Int.reduceLT, Int.reduceLE, Int.reduceNeg, upd_same, reduceCtorEq, false_and, exists_false, or_false, false_or, tNext, tIfS, tRet, tRetN, tDrop, tAsg, gName, tPar, tPar3, tAug, ipI, tVar, tC, tOp, tUn, tCB, tD, tDK, tCons, tNil, rI, rI0, rU, tB, tTest, tCallS, tErr, tAnd, tOr, tNot, tAndV, tOrV, tNotV, tIf, rEq, rNe, scal_ii, scal_bb, scal_ss, rGcd_eq, tBits, List.set_cons_zero, List.set_cons_succ, List.getElem?_cons_zero, List.getElem?_cons_succ, Option.some.injEq, exists_eq_left', V.int.injEq, V.bl.injEq, V.str.injEq, true_and, and_true, decide_eq_true_eq, List.cons.injEq, exists_eq_left, Bool.false_eq_true, if_false, if_true, ite_true, ite_false, Bool.not_eq_true', decide_eq_false_iff_not, Bool.not_not]
    have ro6 := ro5.same s6
    have rt6 := rt5.same s6
    refine ⟨by decide, fun q1 m1 => ?_⟩
    refine ⟨7, q1, _, rfl, by decide, upd_same, hand4 (Nat.le_of_ble_eq_true rfl) (gOk_cons (gD _) (gOk_cons (gOk_int (by decide)) (gOk_cons (gOk_int (by decide)) (gOk_cons (gOk_int (by decide)) gOk_nil)))), fun T1 h7 nT1 sT1 eT1 => ?_⟩
    rw [asked_z hM, told_n ne2 ne3] at eT1
    have s7 := (s6.trans (Same.upd m1)).trans sT1
    refine ⟨by decide, fun q2 m2 => ?_⟩
    refine ne_data (d := .list [.str "number", .int 0]) (.lst (SqL.of ((Same.upd m2) _ _ eT1)) (.cons (.str _) (.cons (.int _) .nil))) (.lst (SqL.of upd_same) (.cons (.str _) (.cons (.int _) .nil))) (by decide +kernel) ⟨false, rfl, ?_⟩
    rw [if_neg (by decide)]
    refine ⟨by decide, fun q3 m3 => ⟨by decide, fun q4 m4 => ?_⟩⟩
    have s8 := ((s7.trans (Same.upd (o := .lst [.str (Str.ofString "number"), .int 0]) m2)).trans (Same.upd (o := .tup [.int 0, .int 0, .int 1]) m3)).trans (Same.upd (o := .lst [.int D, .ref po, .ref q3]) m4)
    have ez : RootAt D (upd (upd (upd h7 q2 (.lst [.str (Str.ofString "number"), .int 0])) q3 (.tup [.int 0, .int 0, .int 1])) q4 (.lst [.int D, .ref po, .ref q3])) q3 (0, 0, 1) := ⟨(Same.upd m4) _ _ upd_same, good_001⟩
    have ro8 := ro5.same s8
    refine ⟨3, q4, _, rfl, by decide, upd_same, hand_of (Nat.le_of_ble_eq_true rfl) (gOk_cons (gD _) (gOk_cons (gOk_root ro8 (zo.up (by decide))) (gOk_cons (gOk_root ez ⟨by decide, by decide, by decide⟩) gOk_nil))), fun T2 h9 nT2 sT2 eT2 => ?_⟩
    rw [asked_over0 hM ro8.isRoot ez.isRoot (by rw [zeroB_at ez]; rfl), told_r ne1] at eT2
    have s9 := s8.trans sT2
    have ez9 := ez.same sT2
    refine ⟨by decide, fun q5 m5 => ⟨by decide, fun q6 m6 => ?_⟩⟩
    have s10 := s9.trans ((Same.upd (o := .tup [.int 0, .int 0, .int 1]) m5).trans (Same.upd (o := .lst [.str (Str.ofString "root"), .ref q5]) m6))
    have w56 := (Same.upd (o := .tup [.int 0, .int 0, .int 1]) m5).trans (Same.upd (o := .lst [.str (Str.ofString "root"), .ref q5]) m6)
    refine ne_data (d := .list [.str "root", rootD (0, 0, 1)]) (.lst (SqL.of (w56 _ _ eT2)) (.cons (.str _) (.cons (dp_root (w56 _ _ ez9.1)) .nil))) (.lst (SqL.of upd_same) (.cons (.str _) (.cons (dp_root (t := (0, 0, 1)) ((Same.upd m6) _ _ upd_same)) .nil))) (by decide +kernel) ⟨false, rfl, ?_⟩
    rw [if_neg (by decide)]
    generalize upd (upd h9 q5 (.tup [.int 0, .int 0, .int 1])) q6 (.lst [.str (Str.ofString "root"), .ref q5]) = k0 at *
    refine Eq.mpr (hC7 _ _) ?_
    refine seq_gen fun C8 hC8 => ?_
    simp only [cxK, wipe, tYes, List.map_cons, List.map_nil, rIxL, rSum, tSl, rSlL, tNoPart, tPart, exists_and_left, and_assoc, V.ref.injEq, HO.lst.injEq, HO.tup.injEq, tFor_eq, iRng1, iRng2, iList, iTup, tLc_eq, tLst, tTup, gSub, rSetL, gT, gL, gTup, gCons, gNil, atI_0, atI_1, atI_2, atI_3, List.length_cons, List.length_nil, Nat.zero_add, Nat.reduceAdd, Nat.reduceLeDiff, ixN_30, ixN_31, ixN_32, Int.reduceLT, Int.reduceLE, Int.reduceNeg, upd_same, reduceCtorEq, false_and, exists_false, or_false, false_or, tNext, tIfS, tRet, tRetN, tDrop, tAsg, gName, tPar, tPar3, tAug, ipI, tVar, tC, tOp, tUn, tCB, tD, tDK, tCons, tNil, rI, rI0, rU, tB, tTest, tCallS, tErr, tAnd, tOr, tNot, tAndV, tOrV, tNotV, tIf, rEq, rNe, scal_ii, scal_bb, scal_ss, rGcd_eq, tBits, List.set_cons_zero, List.set_cons_succ, List.getElem?_cons_zero, List.getElem?_cons_succ, Option.some.injEq, exists_eq_left', V.int.injEq, V.bl.injEq, V.str.injEq, true_and, and_true, decide_eq_true_eq, List.cons.injEq, exists_eq_left, Bool.false_eq_true, if_false, if_true, ite_true, ite_false, Bool.not_eq_true', decide_eq_false_iff_not, Bool.not_not]
    refine ⟨by decide, fun bad nb => ?_⟩
    have sb := s10.trans (Same.upd (o := .lst [.int 5]) nb)
    have eb : upd k0 bad (.lst [.int 5]) bad = some (.lst [.int 5]) := upd_same
    generalize upd k0 bad (.lst [.int 5]) = k1 at *
    refine Eq.mpr (hC8 _ _) ?_
    refine seq_gen fun C9 hC9 => ?_
    simp only [cxK, wipe, tYes, List.map_cons, List.map_nil, rIxL, rSum, tSl, rSlL, tNoPart, tPart, exists_and_left, and_assoc, V.ref.injEq, HO.lst.injEq, HO.tup.injEq, tFor_eq, iRng1, iRng2, iList, iTup, tLc_eq, tLst, tTup, gSub, rSetL, gT, gL, gTup, gCons, gNil, atI_0, atI_1, atI_2, atI_3, List.length_cons, List.length_nil, Nat.zero_add, Nat.reduceAdd, Nat.reduceLeDiff, ixN_30, ixN_31, ixN_32, Int.reduceLT, Int.reduceLE, Int.reduceNeg, upd_same, reduceCtorEq, false_and, exists_false, or_false, false_or, tNext, tIfS, tRet, tRetN, tDrop, tAsg, gName, tPar, tPar3, tAug, ipI, tVar, tC, tOp, tUn, tCB, tD, tDK, tCons, tNil, rI, rI0, rU, tB, tTest, tCallS, tErr, tAnd, tOr, tNot, tAndV, tOrV, tNotV, tIf, rEq, rNe, scal_ii, scal_bb, scal_ss, rGcd_eq, tBits, List.set_cons_zero, List.set_cons_succ, List.getElem?_cons_zero, List.getElem?_cons_succ, Option.some.injEq, exists_eq_left', V.int.injEq, V.bl.injEq, V.str.injEq, true_and, and_true, decide_eq_true_eq, List.cons.injEq, exists_eq_left, Bool.false_eq_true, if_false, if_true, ite_true, ite_false, Bool.not_eq_true', decide_eq_false_iff_not, Bool.not_not]
    refine ⟨by decide, by decide, fun Dt nDt => lcW_range (InvRefs k1 Dt [.str (Str.ofString "measure"), .ref bad]) ⟨Same.upd nDt, [], upd_same, rfl, fun l hl => absurd hl List.not_mem_nil⟩ (fun j HB hj z => ?_) (fun HB z => ?_)⟩
    · have sj := z.1
      refine ⟨rfl, ?_⟩
      simp only [cxK, wipe, tYes, List.map_cons, List.map_nil, rIxL, rSum, tSl, rSlL, tNoPart, tPart, exists_and_left, and_assoc, V.ref.injEq, HO.lst.injEq, HO.tup.injEq, tFor_eq, iRng1, iRng2, iList, iTup, tLc_eq, tLst, tTup, gSub, rSetL, gT, gL, gTup, gCons, gNil, atI_0, atI_1, atI_2, atI_3, List.length_cons, List.length_nil, Nat.zero_add, Nat.reduceAdd, Nat.reduceLeDiff, ixN_30, ixN_31, ixN_32, Int.reduceLT, Int.reduceLE, Int.reduceNeg, upd_same, reduceCtorEq, false_and, exists_false, or_false, false_or, tSeq, tNext, tIfS, tRet, tRetN, tDrop, tAsg, gName, tPar, tPar3, tAug, ipI, tVar, tC, tOp, tUn, tCB, tD, tDK, tCons, tNil, rI, rI0, rU, tB, tTest, tCallS, tErr, tAnd, tOr, tNot, tAndV, tOrV, tNotV, tIf, rEq, rNe, scal_ii, scal_bb, scal_ss, rGcd_eq, tBits, List.set_cons_zero, List.set_cons_succ, List.getElem?_cons_zero, List.getElem?_cons_succ, Option.some.injEq, exists_eq_left', V.int.injEq, V.bl.injEq, V.str.injEq, true_and, and_true, decide_eq_true_eq, List.cons.injEq, exists_eq_left, Bool.false_eq_true, if_false, if_true, ite_true, ite_false, Bool.not_eq_true', decide_eq_false_iff_not, Bool.not_not]
      refine ⟨by decide, fun q7 m7 => ?_⟩
      have eb2 := (sj.trans (Same.upd (o := .lst [.ref bad, .ref po, .ref pt, .int 1]) m7)) _ _ eb
      have roj := (ro5.same sb).same (sj.trans (Same.upd (o := .lst [.ref bad, .ref po, .ref pt, .int 1]) m7))
      have rtj := (rt5.same sb).same (sj.trans (Same.upd (o := .lst [.ref bad, .ref po, .ref pt, .int 1]) m7))
      refine ⟨j, q7, _, by rw [Int.zero_add], by omega, upd_same, hand4 (Nat.le_of_ble_eq_true rfl) (gOk_cons ⟨okV_of (tyS_lst eb2) (by decide), fun a D t e r => (by cases e; exact absurd (eb2.symm.trans r.1) (by simp)), fun i e => (by cases e)⟩ (gOk_cons (gOk_root roj (zo.up (by decide))) (gOk_cons (gOk_root rtj (zt.up (by decide))) (gOk_cons (gOk_int (by decide)) gOk_nil)))), fun T3 HC nT3 sT3 eT3 => ?_⟩
      rw [asked_m rfl, told_m] at eT3
      exact z.push rfl nDt ((Same.upd m7).trans sT3) eT3 (by omega)
    obtain ⟨sj, ls, eDt, el, hls⟩ := z
    refine Eq.mpr (hC9 _ _) ?_
    refine seq_gen fun C10 hC10 => ?_
    simp only [cxK, wipe, tYes, List.map_cons, List.map_nil, rIxL, rSum, tSl, rSlL, tNoPart, tPart, exists_and_left, and_assoc, V.ref.injEq, HO.lst.injEq, HO.tup.injEq, tFor_eq, iRng1, iRng2, iList, iTup, tLc_eq, tLst, tTup, gSub, rSetL, gT, gL, gTup, gCons, gNil, atI_0, atI_1, atI_2, atI_3, List.length_cons, List.length_nil, Nat.zero_add, Nat.reduceAdd, Nat.reduceLeDiff, ixN_30, ixN_31, ixN_32, Int.reduceLT, Int.reduceLE, Int.reduceNeg, upd_same, reduceCtorEq, false_and, exists_false, or_false, false_or, tNext, tIfS, tRet, tRetN, tDrop, tAsg, gName, tPar, tPar3, tAug, ipI, tVar, tC, tOp, tUn, tCB, tD, tDK, tCons, tNil, rI, rI0, rU, tB, tTest, tCallS, tErr, tAnd, tOr, tNot, tAndV, tOrV, tNotV, tIf, rEq, rNe, scal_ii, scal_bb, scal_ss, rGcd_eq, tBits, List.set_cons_zero, List.set_cons_succ, List.getElem?_cons_zero, List.getElem?_cons_succ, Option.some.injEq, exists_eq_left', V.int.injEq, V.bl.injEq, V.str.injEq, true_and, and_true, decide_eq_true_eq, List.cons.injEq, exists_eq_left, Bool.false_eq_true, if_false, if_true, ite_true, ite_false, Bool.not_eq_true', decide_eq_false_iff_not, Bool.not_not, tBM]
    have ebB := sj _ _ eb
    have roB := ro5.same (sb.trans sj)
    have rtB := rt5.same (sb.trans sj)
    refine ⟨.inl ⟨rfl, _, SqL.of ebB⟩, bad, _, _, rfl, rfl, ebB, small1000 (Nat.le_of_ble_eq_true rfl), ?_⟩
    rw [show [V.int 5] ++ [V.int 7] = [V.int 5, V.int 7] from rfl]
    have roA : RootAt D (upd HB bad (.lst [.int 5, .int 7])) po t := roB.upd ebB
    have rtA : RootAt D (upd HB bad (.lst [.int 5, .int 7])) pt u := rtB.upd ebB
    have eA : upd HB bad (.lst [.int 5, .int 7]) bad = some (.lst [.int 5, .int 7]) := upd_same
    have eDA : upd HB bad (.lst [.int 5, .int 7]) Dt = some (.lst (ls.map V.ref)) := upd_lst ebB eDt (fun z => by
      have z2 := HO.lst.inj z
      cases ls with
      | nil => cases z2
      | cons l ls => cases z2)
    have hlA : ∀ l ∈ ls, upd HB bad (.lst [.int 5, .int 7]) l = some (.lst [.str (Str.ofString "measure"), .ref bad]) := fun l hl => upd_lst ebB (hls l hl) (fun z => by cases HO.lst.inj z)
    generalize upd HB bad (.lst [.int 5, .int 7]) = k2 at *
    refine Eq.mpr (hC10 _ _) ?_
    refine seq_gen fun C11 hC11 => ?_
    simp only [cxK, wipe, tYes, List.map_cons, List.map_nil, rIxL, rSum, tSl, rSlL, tNoPart, tPart, exists_and_left, and_assoc, V.ref.injEq, HO.lst.injEq, HO.tup.injEq, tFor_eq, iRng1, iRng2, iList, iTup, tLc_eq, tLst, tTup, gSub, rSetL, gT, gL, gTup, gCons, gNil, atI_0, atI_1, atI_2, atI_3, List.length_cons, List.length_nil, Nat.zero_add, Nat.reduceAdd, Nat.reduceLeDiff, ixN_30, ixN_31, ixN_32, Int.reduceLT, Int.reduceLE, Int.reduceNeg, upd_same, reduceCtorEq, false_and, exists_false, or_false, false_or, tNext, tIfS, tRet, tRetN, tDrop, tAsg, gName, tPar, tPar3, tAug, ipI, tVar, tC, tOp, tUn, tCB, tD, tDK, tCons, tNil, rI, rI0, rU, tB, tTest, tCallS, tErr, tAnd, tOr, tNot, tAndV, tOrV, tNotV, tIf, rEq, rNe, scal_ii, scal_bb, scal_ss, rGcd_eq, tBits, List.set_cons_zero, List.set_cons_succ, List.getElem?_cons_zero, List.getElem?_cons_succ, Option.some.injEq, exists_eq_left', V.int.injEq, V.bl.injEq, V.str.injEq, true_and, and_true, decide_eq_true_eq, List.cons.injEq, exists_eq_left, Bool.false_eq_true, if_false, if_true, ite_true, ite_false, Bool.not_eq_true', decide_eq_false_iff_not, Bool.not_not]
    refine ⟨⟨_, SqL.of eDA⟩, fun Du nDu => lcW_list (xs := ls.map V.ref) (InvRep k2 Du (.ref bad)) ⟨Same.upd nDu, upd_same⟩ (fun j HA _ z => SqL.of (z.1 _ _ eDA)) ?_ ?_⟩
    · rintro j v HA hv ⟨sA, fA⟩
      have hj : j < 8 := by
        have := (List.getElem?_eq_some_iff.mp hv).1
        rw [List.length_map] at this
        omega
      obtain ⟨l, hl, rfl⟩ := List.mem_map.mp (List.mem_of_getElem? hv)
      refine ⟨rfl, ?_⟩
      simp only [cxK, wipe, tYes, List.map_cons, List.map_nil, rIxL, rSum, tSl, rSlL, tNoPart, tPart, exists_and_left, and_assoc, V.ref.injEq, HO.lst.injEq, HO.tup.injEq, tFor_eq, iRng1, iRng2, iList, iTup, tLc_eq, tLst, tTup, gSub, rSetL, gT, gL, gTup, gCons, gNil, atI_0, atI_1, atI_2, atI_3, List.length_cons, List.length_nil, Nat.zero_add, Nat.reduceAdd, Nat.reduceLeDiff, ixN_30, ixN_31, ixN_32, Int.reduceLT, Int.reduceLE, Int.reduceNeg, upd_same, reduceCtorEq, false_and, exists_false, or_false, false_or, tNext, tIfS, tRet, tRetN, tDrop, tAsg, gName, tPar, tPar3, tAug, ipI, tVar, tC, tOp, tUn, tCB, tD, tDK, tCons, tNil, rI, rI0, rU, tB, tTest, tCallS, tErr, tAnd, tOr, tNot, tAndV, tOrV, tNotV, tIf, rEq, rNe, scal_ii, scal_bb, scal_ss, rGcd_eq, tBits, List.set_cons_zero, List.set_cons_succ, List.getElem?_cons_zero, List.getElem?_cons_succ, Option.some.injEq, exists_eq_left', V.int.injEq, V.bl.injEq, V.str.injEq, true_and, and_true, decide_eq_true_eq, List.cons.injEq, exists_eq_left, Bool.false_eq_true, if_false, if_true, ite_true, ite_false, Bool.not_eq_true', decide_eq_false_iff_not, Bool.not_not]
      refine ⟨_, sA _ _ (hlA l hl), V.ref bad, atI_1, _, fA, small1000 (by rw [List.length_replicate]; omega), Same.upd2 sA nDu, ?_⟩
      rw [upd_same, List.replicate_succ']
    rintro HA ⟨sA, fA⟩
    rw [List.length_map, el] at fA
    refine ⟨by decide, fun b1 w1 => ⟨by decide, fun b2 w2 => ?_⟩⟩
    refine ⟨b2, 8, [.ref b1], rfl, rfl, upd_same, by decide, by decide, sml (Nat.le_of_ble_eq_true rfl), fun b3 w3 => ?_⟩
    have sB1 := ((Same.upd (o := .lst [.int 5, .int 7]) w1).trans (Same.upd (o := .lst [.ref b1]) w2)).trans (Same.upd (o := .lst (List.replicate (8 : Int).toNat [V.ref b1]).flatten) w3)
    have f1 := ((Same.upd (o := .lst [.ref b1]) w2).trans (Same.upd (o := .lst (List.replicate (8 : Int).toNat [V.ref b1]).flatten) w3)) _ _ (upd_same (H := HA) (a := b1) (o := .lst [.int 5, .int 7]))
    have f3 : upd (upd (upd HA b1 (.lst [.int 5, .int 7])) b2 (.lst [.ref b1])) b3 (.lst (List.replicate (8 : Int).toNat [V.ref b1]).flatten) b3 = some (.lst (List.replicate 8 (.ref b1))) := by rw [upd_same, flat_rep]; rfl
    generalize upd (upd (upd HA b1 (.lst [.int 5, .int 7])) b2 (.lst [.ref b1])) b3 (.lst (List.replicate (8 : Int).toNat [V.ref b1]).flatten) = k3 at *
    refine ne_data (d := .list (List.replicate 8 (.list [.int 5, .int 7]))) (.lst (SqL.of (sB1 _ _ fA)) (dpAll_rep (.lst (SqL.of ((sA.trans sB1) _ _ eA)) (.cons (.int _) (.cons (.int _) .nil))) 8)) (.lst (SqL.of f3) (dpAll_rep (.lst (SqL.of f1) (.cons (.int _) (.cons (.int _) .nil))) 8)) (by decide +kernel) ⟨false, rfl, ?_⟩
    rw [if_neg (by decide)]
    have ro3 := roA.same (sA.trans sB1)
    have rt3 := rtA.same (sA.trans sB1)
    refine Eq.mpr (hC11 _ _) ?_
    refine seq_gen fun C12 hC12 => ?_
    have eo3 : k3 po = some (.tup [.int t.1, .int t.2.1, .int t.2.2]) := ro3.1
    simp only [cxK, wipe, tYes, List.map_cons, List.map_nil, rIxL, rSum, tSl, rSlL, tNoPart, tPart, exists_and_left, and_assoc, V.ref.injEq, HO.lst.injEq, HO.tup.injEq, tFor_eq, iRng1, iRng2, iList, iTup, tLc_eq, tLst, tTup, gSub, rSetL, gT, gL, gTup, gCons, gNil, atI_0, atI_1, atI_2, atI_3, List.length_cons, List.length_nil, Nat.zero_add, Nat.reduceAdd, Nat.reduceLeDiff, ixN_30, ixN_31, ixN_32, Int.reduceLT, Int.reduceLE, Int.reduceNeg, upd_same, reduceCtorEq, false_and, exists_false, or_false, false_or, tNext, tIfS, tRet, tRetN, tDrop, tAsg, gName, tPar, tPar3, tAug, ipI, tVar, tC, tOp, tUn, tCB, tD, tDK, tCons, tNil, rI, rI0, rU, tB, tTest, tCallS, tErr, tAnd, tOr, tNot, tAndV, tOrV, tNotV, tIf, rEq, rNe, scal_ii, scal_bb, scal_ss, rGcd_eq, tBits, List.set_cons_zero, List.set_cons_succ, List.getElem?_cons_zero, List.getElem?_cons_succ, Option.some.injEq, exists_eq_left', V.int.injEq, V.bl.injEq, V.str.injEq, true_and, and_true, decide_eq_true_eq, List.cons.injEq, exists_eq_left, Bool.false_eq_true, if_false, if_true, ite_true, ite_false, Bool.not_eq_true', decide_eq_false_iff_not, Bool.not_not, eo3]
    suffices fin : ∀ (ps : Addr) (k4 : Hp) (v : Int × Int × Int), Same k3 k4 → RootAt D k4 ps v → Sz 300 v → ¬ (v.1 = 0 ∧ v.2.1 = 0) → C12 [some (V.ref a), some (V.ref g), some (V.int D), some (V.ref po), some (V.ref pt), t5, t6, some (V.ref bad), some (V.ref Dt), some (V.ref ps), none, none, none] k4 by
      refine ⟨by decide, fun c1 y1 => ⟨by decide, fun c2 y2 => ?_⟩⟩
      have sy := (Same.upd (o := .tup [.int t.1, .int t.2.1]) y1).trans (Same.upd (o := .tup [.int 0, .int 0]) y2)
      refine ne_pair ((Same.upd y2) _ _ upd_same) upd_same ⟨_, rfl, ?_⟩
      by_cases hz : t.1 = 0 ∧ t.2.1 = 0
      · rw [decide_eq_true hz.1, decide_eq_true hz.2, if_neg (by decide)]
        refine ⟨by decide, fun c3 y3 => ?_⟩
        exact fin c3 _ (1, 0, 1) (sy.trans (Same.upd y3)) ⟨upd_same, good_101⟩ ⟨by decide, by decide, by decide⟩ (by decide)
      · rw [if_pos (by
          by_cases h1 : t.1 = 0
          · have h2 : t.2.1 ≠ 0 := fun h2 => hz ⟨h1, h2⟩
            rw [decide_eq_false h2, Bool.and_false]; rfl
          · rw [decide_eq_false h1]; rfl)]
        exact fin po _ t sy (ro3.same sy) (zo.up (by decide)) hz
    intro ps k4 v s34 rs zs hz
    have rt4 := rt3.same s34
    refine Eq.mpr (hC12 _ _) ?_
    refine seq_gen fun C13 hC13 => ?_
    simp only [cxK, wipe, tYes, List.map_cons, List.map_nil, rIxL, rSum, tSl, rSlL, tNoPart, tPart, exists_and_left, and_assoc, V.ref.injEq, HO.lst.injEq, HO.tup.injEq, tFor_eq, iRng1, iRng2, iList, iTup, tLc_eq, tLst, tTup, gSub, rSetL, gT, gL, gTup, gCons, gNil, atI_0, atI_1, atI_2, atI_3, List.length_cons, List.length_nil, Nat.zero_add, Nat.reduceAdd, Nat.reduceLeDiff, ixN_30, ixN_31, ixN_32, Int.reduceLT, Int.reduceLE, Int.reduceNeg, upd_same, reduceCtorEq, false_and, exists_false, or_false, false_or, tNext, tIfS, tRet, tRetN, tDrop, tAsg, gName, tPar, tPar3, tAug, ipI, tVar, tC, tOp, tUn, tCB, tD, tDK, tCons, tNil, rI, rI0, rU, tB, tTest, tCallS, tErr, tAnd, tOr, tNot, tAndV, tOrV, tNotV, tIf, rEq, rNe, scal_ii, scal_bb, scal_ss, rGcd_eq, tBits, List.set_cons_zero, List.set_cons_succ, List.getElem?_cons_zero, List.getElem?_cons_succ, Option.some.injEq, exists_eq_left', V.int.injEq, V.bl.injEq, V.str.injEq, true_and, and_true, decide_eq_true_eq, List.cons.injEq, exists_eq_left, Bool.false_eq_true, if_false, if_true, ite_true, ite_false, Bool.not_eq_true', decide_eq_false_iff_not, Bool.not_not]
    refine ⟨by decide, by decide, fun Dg nDg => lcW_range (InvRefs k4 Dg [.str (Str.ofString "let")]) ⟨Same.upd nDg, [], upd_same, rfl, fun l hl => absurd hl List.not_mem_nil⟩ (fun j HB hj z => ?_) (fun HB z => ?_)⟩
    · have sj := z.1
      refine ⟨rfl, ?_⟩
      simp only [cxK, wipe, tYes, List.map_cons, List.map_nil, rIxL, rSum, tSl, rSlL, tNoPart, tPart, exists_and_left, and_assoc, V.ref.injEq, HO.lst.injEq, HO.tup.injEq, tFor_eq, iRng1, iRng2, iList, iTup, tLc_eq, tLst, tTup, gSub, rSetL, gT, gL, gTup, gCons, gNil, atI_0, atI_1, atI_2, atI_3, List.length_cons, List.length_nil, Nat.zero_add, Nat.reduceAdd, Nat.reduceLeDiff, ixN_30, ixN_31, ixN_32, Int.reduceLT, Int.reduceLE, Int.reduceNeg, upd_same, reduceCtorEq, false_and, exists_false, or_false, false_or, tSeq, tNext, tIfS, tRet, tRetN, tDrop, tAsg, gName, tPar, tPar3, tAug, ipI, tVar, tC, tOp, tUn, tCB, tD, tDK, tCons, tNil, rI, rI0, rU, tB, tTest, tCallS, tErr, tAnd, tOr, tNot, tAndV, tOrV, tNotV, tIf, rEq, rNe, scal_ii, scal_bb, scal_ss, rGcd_eq, tBits, List.set_cons_zero, List.set_cons_succ, List.getElem?_cons_zero, List.getElem?_cons_succ, Option.some.injEq, exists_eq_left', V.int.injEq, V.bl.injEq, V.str.injEq, true_and, and_true, decide_eq_true_eq, List.cons.injEq, exists_eq_left, Bool.false_eq_true, if_false, if_true, ite_true, ite_false, Bool.not_eq_true', decide_eq_false_iff_not, Bool.not_not]
      refine ⟨by decide, fun q7 m7 => ?_⟩
      have sx := sj.trans (Same.upd (o := .lst [.int D, .ref pt, .ref ps]) m7)
      refine ⟨j, q7, _, by rw [Int.zero_add], by omega, upd_same, hand_of (by rw [if_pos (by omega)]; exact Nat.le_of_ble_eq_true rfl) (gOk_cons (gD _) (gOk_cons (gOk_root (rt4.same sx) (zt.up (by decide))) (gOk_cons (gOk_root (rs.same sx) zs) gOk_nil))), fun T3 HC nT3 sT3 eT3 => ?_⟩
      rw [asked_ok2 hM (rt4.same sx).isRoot (rs.same sx).isRoot (by rw [zeroB_at (rs.same sx)]; exact Bool.eq_false_iff.mpr (fun h => hz (by simpa using h))) (by omega)] at eT3
      exact z.push rfl nDg ((Same.upd m7).trans sT3) eT3 (by omega)
    obtain ⟨sg, lg, eDg, elg, hlg⟩ := z
    try (simp only [cxK, wipe, tYes, List.map_cons, List.map_nil, rIxL, rSum, tSl, rSlL, tNoPart, tPart, exists_and_left, and_assoc, V.ref.injEq, HO.lst.injEq, HO.tup.injEq, tFor_eq, iRng1, iRng2, iList, iTup, tLc_eq, tLst, tTup, gSub, rSetL, gT, gL, gTup, gCons, gNil, atI_0, atI_1, atI_2, atI_3, List.length_cons, List.length_nil, Nat.zero_add, Nat.reduceAdd, Nat.reduceLeDiff, ixN_30, ixN_31, ixN_32, Int.reduceLT, Int.reduceLE, Int.reduceNeg, upd_same, reduceCtorEq, false_and, exists_false, or_false, false_or, tNext, tIfS, tRet, tRetN, tDrop, tAsg, gName, tPar, tPar3, tAug, ipI, tVar, tC, tOp, tUn, tCB, tD, tDK, tCons, tNil, rI, rI0, rU, tB, tTest, tCallS, tErr, tAnd, tOr, tNot, tAndV, tOrV, tNotV, tIf, rEq, rNe, scal_ii, scal_bb, scal_ss, rGcd_eq, tBits, List.set_cons_zero, List.set_cons_succ, List.getElem?_cons_zero, List.getElem?_cons_succ, Option.some.injEq, exists_eq_left', V.int.injEq, V.bl.injEq, V.str.injEq, true_and, and_true, decide_eq_true_eq, List.cons.injEq, exists_eq_left, Bool.false_eq_true, if_false, if_true, ite_true, ite_false, Bool.not_eq_true', decide_eq_false_iff_not, Bool.not_not])
    refine ⟨by decide, by decide, by decide, by decide, fun De nDe => lcW_range (InvRefs HB De [.str (Str.ofString "let")]) ⟨Same.upd nDe, [], upd_same, rfl, fun l hl => absurd hl List.not_mem_nil⟩ (fun j HC hj z => ?_) (fun HC z => ?_)⟩
    · have sj := z.1
      have hj3 : j < 3 := hj
      refine ⟨rfl, ?_⟩
      simp only [cxK, wipe, tYes, List.map_cons, List.map_nil, rIxL, rSum, tSl, rSlL, tNoPart, tPart, exists_and_left, and_assoc, V.ref.injEq, HO.lst.injEq, HO.tup.injEq, tFor_eq, iRng1, iRng2, iList, iTup, tLc_eq, tLst, tTup, gSub, rSetL, gT, gL, gTup, gCons, gNil, atI_0, atI_1, atI_2, atI_3, List.length_cons, List.length_nil, Nat.zero_add, Nat.reduceAdd, Nat.reduceLeDiff, ixN_30, ixN_31, ixN_32, Int.reduceLT, Int.reduceLE, Int.reduceNeg, upd_same, reduceCtorEq, false_and, exists_false, or_false, false_or, tSeq, tNext, tIfS, tRet, tRetN, tDrop, tAsg, gName, tPar, tPar3, tAug, ipI, tVar, tC, tOp, tUn, tCB, tD, tDK, tCons, tNil, rI, rI0, rU, tB, tTest, tCallS, tErr, tAnd, tOr, tNot, tAndV, tOrV, tNotV, tIf, rEq, rNe, scal_ii, scal_bb, scal_ss, rGcd_eq, tBits, List.set_cons_zero, List.set_cons_succ, List.getElem?_cons_zero, List.getElem?_cons_succ, Option.some.injEq, exists_eq_left', V.int.injEq, V.bl.injEq, V.str.injEq, true_and, and_true, decide_eq_true_eq, List.cons.injEq, exists_eq_left, Bool.false_eq_true, if_false, if_true, ite_true, ite_false, Bool.not_eq_true', decide_eq_false_iff_not, Bool.not_not]
      refine ⟨by decide, fun q7 m7 => ?_⟩
      have sx := (sg.trans sj).trans (Same.upd (o := .lst [.int D, .ref pt]) m7)
      refine ⟨4 + j, q7, _, by simp, by omega, upd_same, hand_of (by rw [if_neg (by omega), if_pos (by omega)]; exact Nat.le_of_ble_eq_true rfl) (gOk_cons (gD _) (gOk_cons (gOk_root (rt4.same sx) (zt.up (by decide))) gOk_nil)), fun T3 HE nT3 sT3 eT3 => ?_⟩
      rw [show ocAsked C_InvalidMeasure C_InvalidRoot C_InvalidNumber _ (4 + j) [.int D, .ref pt] = .ok from asked_ok1 hM (rt4.same sx).isRoot (by omega) (by omega)] at eT3
      exact z.push rfl nDe ((Same.upd m7).trans sT3) eT3 (by omega)
    obtain ⟨se, le, eDe, ele, hle⟩ := z
    refine ⟨Dg, De, _, _, rfl, rfl, se _ _ eDg, eDe, sml (by rw [List.length_map, List.length_map]; omega), fun Df nDf => ?_⟩
    refine Eq.mpr (hC13 _ _) ?_
    simp only [cxK, wipe, tYes, List.map_cons, List.map_nil, rIxL, rSum, tSl, rSlL, tNoPart, tPart, exists_and_left, and_assoc, V.ref.injEq, HO.lst.injEq, HO.tup.injEq, tFor_eq, iRng1, iRng2, iList, iTup, tLc_eq, tLst, tTup, gSub, rSetL, gT, gL, gTup, gCons, gNil, atI_0, atI_1, atI_2, atI_3, List.length_cons, List.length_nil, Nat.zero_add, Nat.reduceAdd, Nat.reduceLeDiff, ixN_30, ixN_31, ixN_32, Int.reduceLT, Int.reduceLE, Int.reduceNeg, upd_same, reduceCtorEq, false_and, exists_false, or_false, false_or, tNext, tIfS, tRet, tRetN, tDrop, tAsg, gName, tPar, tPar3, tAug, ipI, tVar, tC, tOp, tUn, tCB, tD, tDK, tCons, tNil, rI, rI0, rU, tB, tTest, tCallS, tErr, tAnd, tOr, tNot, tAndV, tOrV, tNotV, tIf, rEq, rNe, scal_ii, scal_bb, scal_ss, rGcd_eq, tBits, List.set_cons_zero, List.set_cons_succ, List.getElem?_cons_zero, List.getElem?_cons_succ, Option.some.injEq, exists_eq_left', V.int.injEq, V.bl.injEq, V.str.injEq, true_and, and_true, decide_eq_true_eq, List.cons.injEq, exists_eq_left, Bool.false_eq_true, if_false, if_true, ite_true, ite_false, Bool.not_eq_true', decide_eq_false_iff_not, Bool.not_not]
    have eF : upd HC Df (.lst (lg.map V.ref ++ le.map V.ref)) Df = some (.lst (lg.map V.ref ++ le.map V.ref)) := upd_same
    have lF : ∀ l ∈ lg ++ le, upd HC Df (.lst (lg.map V.ref ++ le.map V.ref)) l = some (.lst [.str (Str.ofString "let")]) := fun l hl => by
      rcases List.mem_append.mp hl with h | h
      · exact (Same.upd nDf) _ _ (se _ _ (hlg l h))
      · exact (Same.upd nDf) _ _ (hle l h)
    generalize upd HC Df (.lst (lg.map V.ref ++ le.map V.ref)) = k5 at *
    rw [← List.map_append] at eF
    have elF : (lg ++ le).length = 7 := by rw [List.length_append, elg, ele]; rfl
    refine ⟨by decide, fun b1 w1 => ⟨by decide, fun b2 w2 => ?_⟩⟩
    refine ⟨b2, 7, [.ref b1], rfl, rfl, upd_same, by decide, by decide, sml (Nat.le_of_ble_eq_true rfl), fun b3 w3 => ?_⟩
    have sB1 := ((Same.upd (o := .lst [.str (Str.ofString "let")]) w1).trans (Same.upd (o := .lst [.ref b1]) w2)).trans (Same.upd (o := .lst (List.replicate (7 : Int).toNat [V.ref b1]).flatten) w3)
    have f1 := ((Same.upd (o := .lst [.ref b1]) w2).trans (Same.upd (o := .lst (List.replicate (7 : Int).toNat [V.ref b1]).flatten) w3)) _ _ (upd_same (H := k5) (a := b1) (o := .lst [.str (Str.ofString "let")]))
    have f3 : upd (upd (upd k5 b1 (.lst [.str (Str.ofString "let")])) b2 (.lst [.ref b1])) b3 (.lst (List.replicate (7 : Int).toNat [V.ref b1]).flatten) b3 = some (.lst (List.replicate 7 (.ref b1))) := by rw [upd_same, flat_rep]; rfl
    generalize upd (upd (upd k5 b1 (.lst [.str (Str.ofString "let")])) b2 (.lst [.ref b1])) b3 (.lst (List.replicate (7 : Int).toNat [V.ref b1]).flatten) = k6 at *
    have dl : ∀ l ∈ lg ++ le, Dp K k6 (.ref l) (.list [.str "let"]) := fun l hl => .lst (SqL.of (sB1 _ _ (lF l hl))) (.cons (.str _) .nil)
    have da := dpAll_refs dl
    rw [elF] at da
    refine eq_data (d := .list (List.replicate 7 (.list [.str "let"]))) (.lst (SqL.of (sB1 _ _ eF)) da) (.lst (SqL.of f3) (dpAll_rep (.lst (SqL.of f1) (.cons (.str _) .nil)) 7)) (by decide +kernel) ⟨true, rfl, ?_⟩
    rw [if_pos rfl]
    refine ⟨by decide, fun q8 m8 => ?_⟩
    refine ⟨7, q8, _, rfl, by decide, upd_same, hand4 (Nat.le_of_ble_eq_true rfl) (gOk_cons (gD _) (gOk_cons (gOk_int (by decide)) (gOk_cons (gOk_int (by decide)) (gOk_cons (gOk_int (by decide)) gOk_nil)))), fun T3 h9 nT3 sT3 eT3 => ⟨by decide, fun q9 m9 => ?_⟩⟩
    rw [asked_nz hM] at eT3
    refine eq_data (d := .list [.str "let"]) (.lst (SqL.of ((Same.upd m9) _ _ eT3)) (.cons (.str _) .nil)) (.lst (SqL.of upd_same) (.cons (.str _) .nil)) (by decide +kernel) ⟨true, rfl, ?_⟩
    rw [if_pos rfl]
    refine ⟨by decide, fun q10 m10 => ?_⟩
    refine ⟨6, q10, _, rfl, by decide, upd_same, hand_of (by rw [if_neg (by omega), if_pos (by omega)]; exact Nat.le_of_ble_eq_true rfl) (gOk_cons (gD _) (gOk_cons behOk_non.g gOk_nil)), fun T4 h10 nT4 sT4 eT4 => ⟨by decide, fun q11 m11 => ?_⟩⟩
    rw [asked_6 hM] at eT4
    exact eq_data (d := .list [.str "let"]) (.lst (SqL.of ((Same.upd m11) _ _ eT4)) (.cons (.str _) .nil)) (.lst (SqL.of upd_same) (.cons (.str _) .nil)) (by decide +kernel) (kk _)

end
theorem all_mk {l : PySem.W.OpenLaw} {w : World} {K : PySem.W.Frag} {h : Heap} {mg : Str → Option Value} {fa : Addr} (X : K.In h) (G : h.Ns mainGlobals mg) (hfa : mg "law" = some (.ref fa))
    {od0 an0 : Option Addr} {sl0 : Array (Option Value)} {oc0 kV0 dc0 pm0 cd0 ct0 : Value} {f0 : Addr} (a0 : PySem.W.nsIn K mainGlobals "is_whole" = some (some (.ref f0))) (l0 : K.lookup f0 = some ⟨oc0, od0, .func (PySem.W.fnOf "is_whole" "is_whole" (defArgs s_IsWhole) (defBody s_IsWhole) (defScope s_IsWhole) .none kV0 dc0 pm0 an0 cd0 ct0), sl0⟩) (c0 : PySem.W.codeIn K cd0 "is_whole" = true) (k0 : PySem.W.keepIn K (.ref f0) = true)
    {od1 an1 : Option Addr} {sl1 : Array (Option Value)} {oc1 kV1 dc1 pm1 cd1 ct1 : Value} {f1 : Addr} (a1 : PySem.W.nsIn K mainGlobals "_has_whole_root" = some (some (.ref f1))) (l1 : K.lookup f1 = some ⟨oc1, od1, .func (PySem.W.fnOf "_has_whole_root" "_has_whole_root" (defArgs s_HasWholeRoot) (defBody s_HasWholeRoot) (defScope s_HasWholeRoot) .none kV1 dc1 pm1 an1 cd1 ct1), sl1⟩) (c1 : PySem.W.codeIn K cd1 "_has_whole_root" = true) (k1 : PySem.W.keepIn K (.ref f1) = true)
    {od2 an2 : Option Addr} {sl2 : Array (Option Value)} {oc2 kV2 dc2 pm2 cd2 ct2 : Value} {f2 : Addr} (a2 : PySem.W.nsIn K mainGlobals "_side" = some (some (.ref f2))) (l2 : K.lookup f2 = some ⟨oc2, od2, .func (PySem.W.fnOf "_side" "_side" (defArgs s_Side) (defBody s_Side) (defScope s_Side) .none kV2 dc2 pm2 an2 cd2 ct2), sl2⟩) (c2 : PySem.W.codeIn K cd2 "_side" = true) (k2 : PySem.W.keepIn K (.ref f2) = true)
    {od3 an3 : Option Addr} {sl3 : Array (Option Value)} {oc3 kV3 dc3 pm3 cd3 ct3 : Value} {f3 : Addr} (a3 : PySem.W.nsIn K mainGlobals "_floor_of_multiple" = some (some (.ref f3))) (l3 : K.lookup f3 = some ⟨oc3, od3, .func (PySem.W.fnOf "_floor_of_multiple" "_floor_of_multiple" (defArgs s_FloorOfMultiple) (defBody s_FloorOfMultiple) (defScope s_FloorOfMultiple) .none kV3 dc3 pm3 an3 cd3 ct3), sl3⟩) (c3 : PySem.W.codeIn K cd3 "_floor_of_multiple" = true) (k3 : PySem.W.keepIn K (.ref f3) = true)
    {od4 an4 : Option Addr} {sl4 : Array (Option Value)} {oc4 kV4 dc4 pm4 cd4 ct4 : Value} {f4 : Addr} (a4 : PySem.W.nsIn K mainGlobals "_law_hash" = some (some (.ref f4))) (l4 : K.lookup f4 = some ⟨oc4, od4, .func (PySem.W.fnOf "_law_hash" "_law_hash" (defArgs s_LawHash) (defBody s_LawHash) (defScope s_LawHash) .none kV4 dc4 pm4 an4 cd4 ct4), sl4⟩) (c4 : PySem.W.codeIn K cd4 "_law_hash" = true) (k4 : PySem.W.keepIn K (.ref f4) = true)
    {od5 an5 : Option Addr} {sl5 : Array (Option Value)} {oc5 kV5 dc5 pm5 cd5 ct5 : Value} {f5 : Addr} (a5 : PySem.W.nsIn K mainGlobals "_law_cell" = some (some (.ref f5))) (l5 : K.lookup f5 = some ⟨oc5, od5, .func (PySem.W.fnOf "_law_cell" "_law_cell" (defArgs s_LawCell) (defBody s_LawCell) (defScope s_LawCell) .none kV5 dc5 pm5 an5 cd5 ct5), sl5⟩) (c5 : PySem.W.codeIn K cd5 "_law_cell" = true) (k5 : PySem.W.keepIn K (.ref f5) = true)
    {od6 an6 : Option Addr} {sl6 : Array (Option Value)} {oc6 kV6 dc6 pm6 cd6 ct6 : Value} {f6 : Addr} (a6 : PySem.W.nsIn K mainGlobals "_law_common" = some (some (.ref f6))) (l6 : K.lookup f6 = some ⟨oc6, od6, .func (PySem.W.fnOf "_law_common" "_law_common" (defArgs s_LawCommon) (defBody s_LawCommon) (defScope s_LawCommon) .none kV6 dc6 pm6 an6 cd6 ct6), sl6⟩) (c6 : PySem.W.codeIn K cd6 "_law_common" = true) (k6 : PySem.W.keepIn K (.ref f6) = true)
    {od7 an7 : Option Addr} {sl7 : Array (Option Value)} {oc7 kV7 dc7 pm7 cd7 ct7 : Value} {f7 : Addr} (a7 : PySem.W.nsIn K mainGlobals "_law_root" = some (some (.ref f7))) (l7 : K.lookup f7 = some ⟨oc7, od7, .func (PySem.W.fnOf "_law_root" "_law_root" (defArgs s_LawRoot) (defBody s_LawRoot) (defScope s_LawRoot) .none kV7 dc7 pm7 an7 cd7 ct7), sl7⟩) (c7 : PySem.W.codeIn K cd7 "_law_root" = true) (k7 : PySem.W.keepIn K (.ref f7) = true)
    {od8 an8 : Option Addr} {sl8 : Array (Option Value)} {oc8 kV8 dc8 pm8 cd8 ct8 : Value} {f8 : Addr} (a8 : PySem.W.nsIn K mainGlobals "are_wholes" = some (some (.ref f8))) (l8 : K.lookup f8 = some ⟨oc8, od8, .func (PySem.W.fnOf "are_wholes" "are_wholes" (defArgs s_AreWholes) (defBody s_AreWholes) (defScope s_AreWholes) .none kV8 dc8 pm8 an8 cd8 ct8), sl8⟩) (c8 : PySem.W.codeIn K cd8 "are_wholes" = true) (k8 : PySem.W.keepIn K (.ref f8) = true)
    {od9 an9 : Option Addr} {sl9 : Array (Option Value)} {oc9 kV9 dc9 pm9 cd9 ct9 : Value} {f9 : Addr} (a9 : PySem.W.nsIn K mainGlobals "is_measure" = some (some (.ref f9))) (l9 : K.lookup f9 = some ⟨oc9, od9, .func (PySem.W.fnOf "is_measure" "is_measure" (defArgs s_IsMeasure) (defBody s_IsMeasure) (defScope s_IsMeasure) .none kV9 dc9 pm9 an9 cd9 ct9), sl9⟩) (c9 : PySem.W.codeIn K cd9 "is_measure" = true) (k9 : PySem.W.keepIn K (.ref f9) = true)
    {od10 an10 : Option Addr} {sl10 : Array (Option Value)} {oc10 kV10 dc10 pm10 cd10 ct10 : Value} {f10 : Addr} (a10 : PySem.W.nsIn K mainGlobals "_reduced" = some (some (.ref f10))) (l10 : K.lookup f10 = some ⟨oc10, od10, .func (PySem.W.fnOf "_reduced" "_reduced" (defArgs s_Reduced) (defBody s_Reduced) (defScope s_Reduced) .none kV10 dc10 pm10 an10 cd10 ct10), sl10⟩) (c10 : PySem.W.codeIn K cd10 "_reduced" = true) (k10 : PySem.W.keepIn K (.ref f10) = true)
    {od11 an11 : Option Addr} {sl11 : Array (Option Value)} {oc11 kV11 dc11 pm11 cd11 ct11 : Value} {f11 : Addr} (a11 : PySem.W.nsIn K mainGlobals "_law_random" = some (some (.ref f11))) (l11 : K.lookup f11 = some ⟨oc11, od11, .func (PySem.W.fnOf "_law_random" "_law_random" (defArgs s_LawRandom) (defBody s_LawRandom) (defScope s_LawRandom) .none kV11 dc11 pm11 an11 cd11 ct11), sl11⟩) (c11 : PySem.W.codeIn K cd11 "_law_random" = true) (k11 : PySem.W.keepIn K (.ref f11) = true)
    {od12 an12 : Option Addr} {sl12 : Array (Option Value)} {oc12 kV12 dc12 pm12 cd12 ct12 : Value} {f12 : Addr} (a12 : PySem.W.nsIn K mainGlobals "_law_generator" = some (some (.ref f12))) (l12 : K.lookup f12 = some ⟨oc12, od12, .func (PySem.W.fnOf "_law_generator" "_law_generator" (defArgs s_LawGenerator) (defBody s_LawGenerator) (defScope s_LawGenerator) .none kV12 dc12 pm12 an12 cd12 ct12), sl12⟩) (c12 : PySem.W.codeIn K cd12 "_law_generator" = true) (k12 : PySem.W.keepIn K (.ref f12) = true)
    {od13 an13 : Option Addr} {sl13 : Array (Option Value)} {oc13 kV13 dc13 pm13 cd13 ct13 : Value} {f13 : Addr} (a13 : PySem.W.nsIn K mainGlobals "_law_least" = some (some (.ref f13))) (l13 : K.lookup f13 = some ⟨oc13, od13, .func (PySem.W.fnOf "_law_least" "_law_least" (defArgs s_LawLeast) (defBody s_LawLeast) (defScope s_LawLeast) .none kV13 dc13 pm13 an13 cd13 ct13), sl13⟩) (c13 : PySem.W.codeIn K cd13 "_law_least" = true) (k13 : PySem.W.keepIn K (.ref f13) = true)
    {od14 an14 : Option Addr} {sl14 : Array (Option Value)} {oc14 kV14 dc14 pm14 cd14 ct14 : Value} {f14 : Addr} (a14 : PySem.W.nsIn K mainGlobals "_law_wrong_roots" = some (some (.ref f14))) (l14 : K.lookup f14 = some ⟨oc14, od14, .func (PySem.W.fnOf "_law_wrong_roots" "_law_wrong_roots" (defArgs s_LawWrongRoots) (defBody s_LawWrongRoots) (defScope s_LawWrongRoots) .none kV14 dc14 pm14 an14 cd14 ct14), sl14⟩) (c14 : PySem.W.codeIn K cd14 "_law_wrong_roots" = true) (k14 : PySem.W.keepIn K (.ref f14) = true)
    {od15 an15 : Option Addr} {sl15 : Array (Option Value)} {oc15 kV15 dc15 pm15 cd15 ct15 : Value} {f15 : Addr} (a15 : PySem.W.nsIn K mainGlobals "check_measure" = some (some (.ref f15))) (l15 : K.lookup f15 = some ⟨oc15, od15, .func (PySem.W.fnOf "check_measure" "check_measure" (defArgs s_CheckMeasure) (defBody s_CheckMeasure) (defScope s_CheckMeasure) .none kV15 dc15 pm15 an15 cd15 ct15), sl15⟩) (c15 : PySem.W.codeIn K cd15 "check_measure" = true) (k15 : PySem.W.keepIn K (.ref f15) = true)
    {od16 an16 : Option Addr} {sl16 : Array (Option Value)} {oc16 kV16 dc16 pm16 cd16 ct16 : Value} {f16 : Addr} (a16 : PySem.W.nsIn K mainGlobals "_is_root_of" = some (some (.ref f16))) (l16 : K.lookup f16 = some ⟨oc16, od16, .func (PySem.W.fnOf "_is_root_of" "_is_root_of" (defArgs s_IsRootOf) (defBody s_IsRootOf) (defScope s_IsRootOf) .none kV16 dc16 pm16 an16 cd16 ct16), sl16⟩) (c16 : PySem.W.codeIn K cd16 "_is_root_of" = true) (k16 : PySem.W.keepIn K (.ref f16) = true)
    {od17 an17 : Option Addr} {sl17 : Array (Option Value)} {oc17 kV17 dc17 pm17 cd17 ct17 : Value} {f17 : Addr} (a17 : PySem.W.nsIn K mainGlobals "_total" = some (some (.ref f17))) (l17 : K.lookup f17 = some ⟨oc17, od17, .func (PySem.W.fnOf "_total" "_total" (defArgs s_Total) (defBody s_Total) (defScope s_Total) .none kV17 dc17 pm17 an17 cd17 ct17), sl17⟩) (c17 : PySem.W.codeIn K cd17 "_total" = true) (k17 : PySem.W.keepIn K (.ref f17) = true)
    {od18 an18 : Option Addr} {sl18 : Array (Option Value)} {oc18 kV18 dc18 pm18 cd18 ct18 : Value} {f18 : Addr} (a18 : PySem.W.nsIn K mainGlobals "_multiplied" = some (some (.ref f18))) (l18 : K.lookup f18 = some ⟨oc18, od18, .func (PySem.W.fnOf "_multiplied" "_multiplied" (defArgs s_Multiplied) (defBody s_Multiplied) (defScope s_Multiplied) .none kV18 dc18 pm18 an18 cd18 ct18), sl18⟩) (c18 : PySem.W.codeIn K cd18 "_multiplied" = true) (k18 : PySem.W.keepIn K (.ref f18) = true)
    {od19 an19 : Option Addr} {sl19 : Array (Option Value)} {oc19 kV19 dc19 pm19 cd19 ct19 : Value} {f19 : Addr} (a19 : PySem.W.nsIn K mainGlobals "_law_measure" = some (some (.ref f19))) (l19 : K.lookup f19 = some ⟨oc19, od19, .func (PySem.W.fnOf "_law_measure" "_law_measure" (defArgs s_LawMeasure) (defBody s_LawMeasure) (defScope s_LawMeasure) .none kV19 dc19 pm19 an19 cd19 ct19), sl19⟩) (c19 : PySem.W.codeIn K cd19 "_law_measure" = true) (k19 : PySem.W.keepIn K (.ref f19) = true)
    {od20 an20 : Option Addr} {sl20 : Array (Option Value)} {oc20 kV20 dc20 pm20 cd20 ct20 : Value} {f20 : Addr} (a20 : PySem.W.nsIn K mainGlobals "_law_drawn" = some (some (.ref f20))) (l20 : K.lookup f20 = some ⟨oc20, od20, .func (PySem.W.fnOf "_law_drawn" "_law_drawn" (defArgs s_LawDrawn) (defBody s_LawDrawn) (defScope s_LawDrawn) .none kV20 dc20 pm20 an20 cd20 ct20), sl20⟩) (c20 : PySem.W.codeIn K cd20 "_law_drawn" = true) (k20 : PySem.W.keepIn K (.ref f20) = true)
    {od21 an21 : Option Addr} {sl21 : Array (Option Value)} {oc21 kV21 dc21 pm21 cd21 ct21 : Value} {f21 : Addr} (a21 : PySem.W.nsIn K mainGlobals "is_root" = some (some (.ref f21))) (l21 : K.lookup f21 = some ⟨oc21, od21, .func (PySem.W.fnOf "is_root" "is_root" (defArgs s_IsRoot) (defBody s_IsRoot) (defScope s_IsRoot) .none kV21 dc21 pm21 an21 cd21 ct21), sl21⟩) (c21 : PySem.W.codeIn K cd21 "is_root" = true) (k21 : PySem.W.keepIn K (.ref f21) = true)
    {od22 an22 : Option Addr} {sl22 : Array (Option Value)} {oc22 kV22 dc22 pm22 cd22 ct22 : Value} {f22 : Addr} (a22 : PySem.W.nsIn K mainGlobals "root_number" = some (some (.ref f22))) (l22 : K.lookup f22 = some ⟨oc22, od22, .func (PySem.W.fnOf "root_number" "root_number" (defArgs s_RootNumber) (defBody s_RootNumber) (defScope s_RootNumber) .none kV22 dc22 pm22 an22 cd22 ct22), sl22⟩) (c22 : PySem.W.codeIn K cd22 "root_number" = true) (k22 : PySem.W.keepIn K (.ref f22) = true)
    {od23 an23 : Option Addr} {sl23 : Array (Option Value)} {oc23 kV23 dc23 pm23 cd23 ct23 : Value} {f23 : Addr} (a23 : PySem.W.nsIn K mainGlobals "_check" = some (some (.ref f23))) (l23 : K.lookup f23 = some ⟨oc23, od23, .func (PySem.W.fnOf "_check" "_check" (defArgs s_Check) (defBody s_Check) (defScope s_Check) .none kV23 dc23 pm23 an23 cd23 ct23), sl23⟩) (c23 : PySem.W.codeIn K cd23 "_check" = true) (k23 : PySem.W.keepIn K (.ref f23) = true)
    {od24 an24 : Option Addr} {sl24 : Array (Option Value)} {oc24 kV24 dc24 pm24 cd24 ct24 : Value} {f24 : Addr} (a24 : PySem.W.nsIn K mainGlobals "root_plus" = some (some (.ref f24))) (l24 : K.lookup f24 = some ⟨oc24, od24, .func (PySem.W.fnOf "root_plus" "root_plus" (defArgs s_RootPlus) (defBody s_RootPlus) (defScope s_RootPlus) .none kV24 dc24 pm24 an24 cd24 ct24), sl24⟩) (c24 : PySem.W.codeIn K cd24 "root_plus" = true) (k24 : PySem.W.keepIn K (.ref f24) = true)
    {od25 an25 : Option Addr} {sl25 : Array (Option Value)} {oc25 kV25 dc25 pm25 cd25 ct25 : Value} {f25 : Addr} (a25 : PySem.W.nsIn K mainGlobals "root_less" = some (some (.ref f25))) (l25 : K.lookup f25 = some ⟨oc25, od25, .func (PySem.W.fnOf "root_less" "root_less" (defArgs s_RootLess) (defBody s_RootLess) (defScope s_RootLess) .none kV25 dc25 pm25 an25 cd25 ct25), sl25⟩) (c25 : PySem.W.codeIn K cd25 "root_less" = true) (k25 : PySem.W.keepIn K (.ref f25) = true)
    {od26 an26 : Option Addr} {sl26 : Array (Option Value)} {oc26 kV26 dc26 pm26 cd26 ct26 : Value} {f26 : Addr} (a26 : PySem.W.nsIn K mainGlobals "root_times" = some (some (.ref f26))) (l26 : K.lookup f26 = some ⟨oc26, od26, .func (PySem.W.fnOf "root_times" "root_times" (defArgs s_RootTimes) (defBody s_RootTimes) (defScope s_RootTimes) .none kV26 dc26 pm26 an26 cd26 ct26), sl26⟩) (c26 : PySem.W.codeIn K cd26 "root_times" = true) (k26 : PySem.W.keepIn K (.ref f26) = true)
    {od27 an27 : Option Addr} {sl27 : Array (Option Value)} {oc27 kV27 dc27 pm27 cd27 ct27 : Value} {f27 : Addr} (a27 : PySem.W.nsIn K mainGlobals "root_over" = some (some (.ref f27))) (l27 : K.lookup f27 = some ⟨oc27, od27, .func (PySem.W.fnOf "root_over" "root_over" (defArgs s_RootOver) (defBody s_RootOver) (defScope s_RootOver) .none kV27 dc27 pm27 an27 cd27 ct27), sl27⟩) (c27 : PySem.W.codeIn K cd27 "root_over" = true) (k27 : PySem.W.keepIn K (.ref f27) = true)
    {od28 an28 : Option Addr} {sl28 : Array (Option Value)} {oc28 kV28 dc28 pm28 cd28 ct28 : Value} {f28 : Addr} (a28 : PySem.W.nsIn K mainGlobals "root_side" = some (some (.ref f28))) (l28 : K.lookup f28 = some ⟨oc28, od28, .func (PySem.W.fnOf "root_side" "root_side" (defArgs s_RootSide) (defBody s_RootSide) (defScope s_RootSide) .none kV28 dc28 pm28 an28 cd28 ct28), sl28⟩) (c28 : PySem.W.codeIn K cd28 "root_side" = true) (k28 : PySem.W.keepIn K (.ref f28) = true)
    {od29 an29 : Option Addr} {sl29 : Array (Option Value)} {oc29 kV29 dc29 pm29 cd29 ct29 : Value} {f29 : Addr} (a29 : PySem.W.nsIn K mainGlobals "root_floor" = some (some (.ref f29))) (l29 : K.lookup f29 = some ⟨oc29, od29, .func (PySem.W.fnOf "root_floor" "root_floor" (defArgs s_RootFloor) (defBody s_RootFloor) (defScope s_RootFloor) .none kV29 dc29 pm29 an29 cd29 ct29), sl29⟩) (c29 : PySem.W.codeIn K cd29 "root_floor" = true) (k29 : PySem.W.keepIn K (.ref f29) = true)
    {od30 an30 : Option Addr} {sl30 : Array (Option Value)} {oc30 kV30 dc30 pm30 cd30 ct30 : Value} {f30 : Addr} (a30 : PySem.W.nsIn K mainGlobals "_law_asked" = some (some (.ref f30))) (l30 : K.lookup f30 = some ⟨oc30, od30, .func (PySem.W.fnOf "_law_asked" "_law_asked" (defArgs s_LawAsked) (defBody s_LawAsked) (defScope s_LawAsked) .none kV30 dc30 pm30 an30 cd30 ct30), sl30⟩) (c30 : PySem.W.codeIn K cd30 "_law_asked" = true) (k30 : PySem.W.keepIn K (.ref f30) = true)
    {od31 an31 : Option Addr} {sl31 : Array (Option Value)} {oc31 kV31 dc31 pm31 cd31 ct31 : Value} {f31 : Addr} (a31 : PySem.W.nsIn K mainGlobals "_law_told" = some (some (.ref f31))) (l31 : K.lookup f31 = some ⟨oc31, od31, .func (PySem.W.fnOf "_law_told" "_law_told" (defArgs s_LawTold) (defBody s_LawTold) (defScope s_LawTold) .none kV31 dc31 pm31 an31 cd31 ct31), sl31⟩) (c31 : PySem.W.codeIn K cd31 "_law_told" = true) (k31 : PySem.W.keepIn K (.ref f31) = true)
    {od32 an32 : Option Addr} {sl32 : Array (Option Value)} {oc32 kV32 dc32 pm32 cd32 ct32 : Value} {f32 : Addr} (a32 : PySem.W.nsIn K mainGlobals "_law_all_refused" = some (some (.ref f32))) (l32 : K.lookup f32 = some ⟨oc32, od32, .func (PySem.W.fnOf "_law_all_refused" "_law_all_refused" (defArgs s_LawAllRefused) (defBody s_LawAllRefused) (defScope s_LawAllRefused) .none kV32 dc32 pm32 an32 cd32 ct32), sl32⟩) (c32 : PySem.W.codeIn K cd32 "_law_all_refused" = true) (k32 : PySem.W.keepIn K (.ref f32) = true)
    {od33 an33 : Option Addr} {sl33 : Array (Option Value)} {oc33 kV33 dc33 pm33 cd33 ct33 : Value} {f33 : Addr} (a33 : PySem.W.nsIn K mainGlobals "law" = some (some (.ref f33))) (l33 : K.lookup f33 = some ⟨oc33, od33, .func (PySem.W.fnOf "law" "law" (defArgs s_Law) (defBody s_Law) (defScope s_Law) .none kV33 dc33 pm33 an33 cd33 ct33), sl33⟩) (c33 : PySem.W.codeIn K cd33 "law" = true) (k33 : PySem.W.keepIn K (.ref f33) = true) (z_ValueError : PySem.W.nsIn K mainGlobals "ValueError" = some none) (z_abs : PySem.W.nsIn K mainGlobals "abs" = some none) (z_all : PySem.W.nsIn K mainGlobals "all" = some none) (z_bool : PySem.W.nsIn K mainGlobals "bool" = some none) (z_int : PySem.W.nsIn K mainGlobals "int" = some none) (z_isinstance : PySem.W.nsIn K mainGlobals "isinstance" = some none) (z_len : PySem.W.nsIn K mainGlobals "len" = some none) (z_list : PySem.W.nsIn K mainGlobals "list" = some none) (z_max : PySem.W.nsIn K mainGlobals "max" = some none) (z_range : PySem.W.nsIn K mainGlobals "range" = some none) (z_repr : PySem.W.nsIn K mainGlobals "repr" = some none) (z_sum : PySem.W.nsIn K mainGlobals "sum" = some none) (z_tuple : PySem.W.nsIn K mainGlobals "tuple" = some none) (z_gcd : PySem.W.nsIn K mainGlobals "gcd" = some (some (.builtin "math.gcd"))) (z_isqrt : PySem.W.nsIn K mainGlobals "isqrt" = some (some (.builtin "math.isqrt")))
    {C_SheetError : Addr} (aC_SheetError : PySem.W.nsIn K mainGlobals "SheetError" = some (some (.ref C_SheetError))) (xS_SheetError : PySem.W.excIn K C_SheetError [.type "ValueError", .type "Exception", .type "BaseException", .type "object"] "ValueError.__new__" = true) (hn_g : PySem.W.specialIn K (.builtin "object.__class__") "__get__" = some (some (.builtin "getset_descriptor.__get__"))) (ht_g : PySem.W.takesIn K (.builtin "object.__class__") = some true) (ga_SheetError : PySem.W.findIn K (.ref C_SheetError) "__getattribute__" = some (some (.builtin "BaseException.__getattribute__"))) (gg_SheetError : PySem.W.findIn K (.ref C_SheetError) "__getattr__" = some none) (hc_SheetError : PySem.W.findIn K (.ref C_SheetError) "__class__" = some (some (.builtin "object.__class__"))) (kC_SheetError : PySem.W.keepIn K (.ref C_SheetError) = true) (eC_SheetError : PySem.W.subIn K (.ref C_SheetError) (.type "BaseException") = some true) (tC_SheetError : PySem.W.typeIn K (.ref C_SheetError) = some (.type "type")) (hD_SheetError : PySem.W.hasDictIn K C_SheetError = true) (iS_SheetError : PySem.W.isClsIn K C_SheetError = true) (mo_SheetError : PySem.W.mroIn K C_SheetError (.type "object") = some true) (sv_SheetError : PySem.W.subIn K (.ref C_SheetError) (.type "ValueError") = some true)
    {C_InvalidMeasure f_InvalidMeasure t_InvalidMeasure N_InvalidMeasure : Addr} {nm_InvalidMeasure q_InvalidMeasure : Str} {bs_InvalidMeasure sub_InvalidMeasure : List Value} {sn_InvalidMeasure : List Str} {ab_InvalidMeasure : Bool} {col_InvalidMeasure : Option Bool} {dd_InvalidMeasure od_InvalidMeasure an_InvalidMeasure tod_InvalidMeasure : Option Addr} {m0_InvalidMeasure m1_InvalidMeasure m2_InvalidMeasure m3_InvalidMeasure m5_InvalidMeasure : Option Value} {sl_InvalidMeasure tsl_InvalidMeasure : Array (Option Value)} {oc_InvalidMeasure kV_InvalidMeasure dc_InvalidMeasure pm_InvalidMeasure cd_InvalidMeasure ct_InvalidMeasure toc_InvalidMeasure : Value} {tn_InvalidMeasure : Nat} (aC_InvalidMeasure : PySem.W.nsIn K mainGlobals "InvalidMeasure" = some (some (.ref C_InvalidMeasure))) (xL_InvalidMeasure : K.lookup C_InvalidMeasure = some (PySem.excClassObj nm_InvalidMeasure q_InvalidMeasure C_InvalidMeasure N_InvalidMeasure bs_InvalidMeasure [.ref C_SheetError, .type "ValueError", .type "Exception", .type "BaseException", .type "object"] true sn_InvalidMeasure sub_InvalidMeasure ab_InvalidMeasure col_InvalidMeasure dd_InvalidMeasure m0_InvalidMeasure m1_InvalidMeasure m2_InvalidMeasure m3_InvalidMeasure m5_InvalidMeasure "ValueError.__new__")) (sa_InvalidMeasure : PySem.W.findIn K (.ref C_InvalidMeasure) "__setattr__" = some (some (.builtin "object.__setattr__"))) (nv_InvalidMeasure : PySem.W.findIn K (.ref C_InvalidMeasure) "value" = some none) (iC_InvalidMeasure : PySem.W.findIn K (.ref C_InvalidMeasure) "__init__" = some (some (.ref f_InvalidMeasure))) (tI_InvalidMeasure : PySem.W.typeIn K (.ref f_InvalidMeasure) = some (.type "function")) (l_InvalidMeasure : K.lookup f_InvalidMeasure = some ⟨oc_InvalidMeasure, od_InvalidMeasure, .func (PySem.W.fnOf "__init__" "InvalidMeasure.__init__" (defArgs s_iInvalidMeasure) (defBody s_iInvalidMeasure) (defScope s_iInvalidMeasure) (.ref t_InvalidMeasure) kV_InvalidMeasure dc_InvalidMeasure pm_InvalidMeasure an_InvalidMeasure cd_InvalidMeasure ct_InvalidMeasure), sl_InvalidMeasure⟩) (c_InvalidMeasure : PySem.W.codeIn K cd_InvalidMeasure "InvalidMeasure.__init__" = true) (kf_InvalidMeasure : PySem.W.keepIn K (.ref f_InvalidMeasure) = true) (lt_InvalidMeasure : K.lookup t_InvalidMeasure = some ⟨toc_InvalidMeasure, tod_InvalidMeasure, .seq (List.toArray [.none]) tn_InvalidMeasure, tsl_InvalidMeasure⟩) (ss_InvalidMeasure : PySem.W.subIn K (.ref C_InvalidMeasure) (.ref C_SheetError) = some true) (sf_InvalidMeasure : PySem.W.subIn K (.ref C_SheetError) (.ref C_InvalidMeasure) = some false) (ga_InvalidMeasure : PySem.W.findIn K (.ref C_InvalidMeasure) "__getattribute__" = some (some (.builtin "BaseException.__getattribute__"))) (gg_InvalidMeasure : PySem.W.findIn K (.ref C_InvalidMeasure) "__getattr__" = some none) (hc_InvalidMeasure : PySem.W.findIn K (.ref C_InvalidMeasure) "__class__" = some (some (.builtin "object.__class__"))) (kC_InvalidMeasure : PySem.W.keepIn K (.ref C_InvalidMeasure) = true) (eC_InvalidMeasure : PySem.W.subIn K (.ref C_InvalidMeasure) (.type "BaseException") = some true) (tC_InvalidMeasure : PySem.W.typeIn K (.ref C_InvalidMeasure) = some (.type "type")) (hD_InvalidMeasure : PySem.W.hasDictIn K C_InvalidMeasure = true) (iS_InvalidMeasure : PySem.W.isClsIn K C_InvalidMeasure = true) (mo_InvalidMeasure : PySem.W.mroIn K C_InvalidMeasure (.type "object") = some true) (sv_InvalidMeasure : PySem.W.subIn K (.ref C_InvalidMeasure) (.type "ValueError") = some true)
    {C_InvalidRoot f_InvalidRoot t_InvalidRoot N_InvalidRoot : Addr} {nm_InvalidRoot q_InvalidRoot : Str} {bs_InvalidRoot sub_InvalidRoot : List Value} {sn_InvalidRoot : List Str} {ab_InvalidRoot : Bool} {col_InvalidRoot : Option Bool} {dd_InvalidRoot od_InvalidRoot an_InvalidRoot tod_InvalidRoot : Option Addr} {m0_InvalidRoot m1_InvalidRoot m2_InvalidRoot m3_InvalidRoot m5_InvalidRoot : Option Value} {sl_InvalidRoot tsl_InvalidRoot : Array (Option Value)} {oc_InvalidRoot kV_InvalidRoot dc_InvalidRoot pm_InvalidRoot cd_InvalidRoot ct_InvalidRoot toc_InvalidRoot : Value} {tn_InvalidRoot : Nat} (aC_InvalidRoot : PySem.W.nsIn K mainGlobals "InvalidRoot" = some (some (.ref C_InvalidRoot))) (xL_InvalidRoot : K.lookup C_InvalidRoot = some (PySem.excClassObj nm_InvalidRoot q_InvalidRoot C_InvalidRoot N_InvalidRoot bs_InvalidRoot [.ref C_SheetError, .type "ValueError", .type "Exception", .type "BaseException", .type "object"] true sn_InvalidRoot sub_InvalidRoot ab_InvalidRoot col_InvalidRoot dd_InvalidRoot m0_InvalidRoot m1_InvalidRoot m2_InvalidRoot m3_InvalidRoot m5_InvalidRoot "ValueError.__new__")) (sa_InvalidRoot : PySem.W.findIn K (.ref C_InvalidRoot) "__setattr__" = some (some (.builtin "object.__setattr__"))) (nv_InvalidRoot : PySem.W.findIn K (.ref C_InvalidRoot) "value" = some none) (iC_InvalidRoot : PySem.W.findIn K (.ref C_InvalidRoot) "__init__" = some (some (.ref f_InvalidRoot))) (tI_InvalidRoot : PySem.W.typeIn K (.ref f_InvalidRoot) = some (.type "function")) (l_InvalidRoot : K.lookup f_InvalidRoot = some ⟨oc_InvalidRoot, od_InvalidRoot, .func (PySem.W.fnOf "__init__" "InvalidRoot.__init__" (defArgs s_iInvalidRoot) (defBody s_iInvalidRoot) (defScope s_iInvalidRoot) (.ref t_InvalidRoot) kV_InvalidRoot dc_InvalidRoot pm_InvalidRoot an_InvalidRoot cd_InvalidRoot ct_InvalidRoot), sl_InvalidRoot⟩) (c_InvalidRoot : PySem.W.codeIn K cd_InvalidRoot "InvalidRoot.__init__" = true) (kf_InvalidRoot : PySem.W.keepIn K (.ref f_InvalidRoot) = true) (lt_InvalidRoot : K.lookup t_InvalidRoot = some ⟨toc_InvalidRoot, tod_InvalidRoot, .seq (List.toArray [.none]) tn_InvalidRoot, tsl_InvalidRoot⟩) (ss_InvalidRoot : PySem.W.subIn K (.ref C_InvalidRoot) (.ref C_SheetError) = some true) (sf_InvalidRoot : PySem.W.subIn K (.ref C_SheetError) (.ref C_InvalidRoot) = some false) (ga_InvalidRoot : PySem.W.findIn K (.ref C_InvalidRoot) "__getattribute__" = some (some (.builtin "BaseException.__getattribute__"))) (gg_InvalidRoot : PySem.W.findIn K (.ref C_InvalidRoot) "__getattr__" = some none) (hc_InvalidRoot : PySem.W.findIn K (.ref C_InvalidRoot) "__class__" = some (some (.builtin "object.__class__"))) (kC_InvalidRoot : PySem.W.keepIn K (.ref C_InvalidRoot) = true) (eC_InvalidRoot : PySem.W.subIn K (.ref C_InvalidRoot) (.type "BaseException") = some true) (tC_InvalidRoot : PySem.W.typeIn K (.ref C_InvalidRoot) = some (.type "type")) (hD_InvalidRoot : PySem.W.hasDictIn K C_InvalidRoot = true) (iS_InvalidRoot : PySem.W.isClsIn K C_InvalidRoot = true) (mo_InvalidRoot : PySem.W.mroIn K C_InvalidRoot (.type "object") = some true) (sv_InvalidRoot : PySem.W.subIn K (.ref C_InvalidRoot) (.type "ValueError") = some true)
    {C_InvalidNumber f_InvalidNumber t_InvalidNumber N_InvalidNumber : Addr} {nm_InvalidNumber q_InvalidNumber : Str} {bs_InvalidNumber sub_InvalidNumber : List Value} {sn_InvalidNumber : List Str} {ab_InvalidNumber : Bool} {col_InvalidNumber : Option Bool} {dd_InvalidNumber od_InvalidNumber an_InvalidNumber tod_InvalidNumber : Option Addr} {m0_InvalidNumber m1_InvalidNumber m2_InvalidNumber m3_InvalidNumber m5_InvalidNumber : Option Value} {sl_InvalidNumber tsl_InvalidNumber : Array (Option Value)} {oc_InvalidNumber kV_InvalidNumber dc_InvalidNumber pm_InvalidNumber cd_InvalidNumber ct_InvalidNumber toc_InvalidNumber : Value} {tn_InvalidNumber : Nat} (aC_InvalidNumber : PySem.W.nsIn K mainGlobals "InvalidNumber" = some (some (.ref C_InvalidNumber))) (xL_InvalidNumber : K.lookup C_InvalidNumber = some (PySem.excClassObj nm_InvalidNumber q_InvalidNumber C_InvalidNumber N_InvalidNumber bs_InvalidNumber [.ref C_SheetError, .type "ValueError", .type "Exception", .type "BaseException", .type "object"] true sn_InvalidNumber sub_InvalidNumber ab_InvalidNumber col_InvalidNumber dd_InvalidNumber m0_InvalidNumber m1_InvalidNumber m2_InvalidNumber m3_InvalidNumber m5_InvalidNumber "ValueError.__new__")) (sa_InvalidNumber : PySem.W.findIn K (.ref C_InvalidNumber) "__setattr__" = some (some (.builtin "object.__setattr__"))) (nv_InvalidNumber : PySem.W.findIn K (.ref C_InvalidNumber) "value" = some none) (iC_InvalidNumber : PySem.W.findIn K (.ref C_InvalidNumber) "__init__" = some (some (.ref f_InvalidNumber))) (tI_InvalidNumber : PySem.W.typeIn K (.ref f_InvalidNumber) = some (.type "function")) (l_InvalidNumber : K.lookup f_InvalidNumber = some ⟨oc_InvalidNumber, od_InvalidNumber, .func (PySem.W.fnOf "__init__" "InvalidNumber.__init__" (defArgs s_iInvalidNumber) (defBody s_iInvalidNumber) (defScope s_iInvalidNumber) (.ref t_InvalidNumber) kV_InvalidNumber dc_InvalidNumber pm_InvalidNumber an_InvalidNumber cd_InvalidNumber ct_InvalidNumber), sl_InvalidNumber⟩) (c_InvalidNumber : PySem.W.codeIn K cd_InvalidNumber "InvalidNumber.__init__" = true) (kf_InvalidNumber : PySem.W.keepIn K (.ref f_InvalidNumber) = true) (lt_InvalidNumber : K.lookup t_InvalidNumber = some ⟨toc_InvalidNumber, tod_InvalidNumber, .seq (List.toArray [.none]) tn_InvalidNumber, tsl_InvalidNumber⟩) (ss_InvalidNumber : PySem.W.subIn K (.ref C_InvalidNumber) (.ref C_SheetError) = some true) (sf_InvalidNumber : PySem.W.subIn K (.ref C_SheetError) (.ref C_InvalidNumber) = some false) (ga_InvalidNumber : PySem.W.findIn K (.ref C_InvalidNumber) "__getattribute__" = some (some (.builtin "BaseException.__getattribute__"))) (gg_InvalidNumber : PySem.W.findIn K (.ref C_InvalidNumber) "__getattr__" = some none) (hc_InvalidNumber : PySem.W.findIn K (.ref C_InvalidNumber) "__class__" = some (some (.builtin "object.__class__"))) (kC_InvalidNumber : PySem.W.keepIn K (.ref C_InvalidNumber) = true) (eC_InvalidNumber : PySem.W.subIn K (.ref C_InvalidNumber) (.type "BaseException") = some true) (tC_InvalidNumber : PySem.W.typeIn K (.ref C_InvalidNumber) = some (.type "type")) (hD_InvalidNumber : PySem.W.hasDictIn K C_InvalidNumber = true) (iS_InvalidNumber : PySem.W.isClsIn K C_InvalidNumber = true) (mo_InvalidNumber : PySem.W.mroIn K C_InvalidNumber (.type "object") = some true) (sv_InvalidNumber : PySem.W.subIn K (.ref C_InvalidNumber) (.type "ValueError") = some true) (p_SheetError_SheetError : PySem.W.subIn K (.ref C_SheetError) (.ref C_SheetError) = some true) (p_InvalidMeasure_InvalidMeasure : PySem.W.subIn K (.ref C_InvalidMeasure) (.ref C_InvalidMeasure) = some true) (p_InvalidMeasure_InvalidRoot : PySem.W.subIn K (.ref C_InvalidMeasure) (.ref C_InvalidRoot) = some false) (p_InvalidMeasure_InvalidNumber : PySem.W.subIn K (.ref C_InvalidMeasure) (.ref C_InvalidNumber) = some false) (p_InvalidRoot_InvalidMeasure : PySem.W.subIn K (.ref C_InvalidRoot) (.ref C_InvalidMeasure) = some false) (p_InvalidRoot_InvalidRoot : PySem.W.subIn K (.ref C_InvalidRoot) (.ref C_InvalidRoot) = some true) (p_InvalidRoot_InvalidNumber : PySem.W.subIn K (.ref C_InvalidRoot) (.ref C_InvalidNumber) = some false) (p_InvalidNumber_InvalidMeasure : PySem.W.subIn K (.ref C_InvalidNumber) (.ref C_InvalidMeasure) = some false) (p_InvalidNumber_InvalidRoot : PySem.W.subIn K (.ref C_InvalidNumber) (.ref C_InvalidRoot) = some false) (p_InvalidNumber_InvalidNumber : PySem.W.subIn K (.ref C_InvalidNumber) (.ref C_InvalidNumber) = some true) :
    ∃ fd : FuncData, (∀ (s : Shared) (v : Value), BindsTo s fd ⟨[v], []⟩ [("_law_script", v)]) ∧ ∀ base : Heap, K.In base → base.Ns mainGlobals mg → FnG l.prog w K mg base 9 fa fd ["_law_script"] (Kx.spLaw K) := by
  have e := hfa.symm.trans (PySem.W.mg_of X G a33)
  cases e
  have T : Txt K mg := ⟨PySem.W.mg_none_of X G z_ValueError, PySem.W.mg_none_of X G z_abs, PySem.W.mg_none_of X G z_all, PySem.W.mg_none_of X G z_bool, PySem.W.mg_none_of X G z_int, PySem.W.mg_none_of X G z_isinstance, PySem.W.mg_none_of X G z_len, PySem.W.mg_none_of X G z_list, PySem.W.mg_none_of X G z_max, PySem.W.mg_none_of X G z_range, PySem.W.mg_none_of X G z_repr, PySem.W.mg_none_of X G z_sum, PySem.W.mg_none_of X G z_tuple, PySem.W.mg_of X G z_gcd, PySem.W.mg_of X G z_isqrt⟩
  have F0 := fun_mk (st := s_IsWhole) l0 c0 k0
  have b0 := F0.binds (ps := ["value"]) fun _ _ _ _ _ _ us hl => match us, hl with | [_], _ => rfl
  have F1 := fun_mk (st := s_HasWholeRoot) l1 c1 k1
  have b1 := F1.binds (ps := ["measure"]) fun _ _ _ _ _ _ us hl => match us, hl with | [_], _ => rfl
  have F2 := fun_mk (st := s_Side) l2 c2 k2
  have b2 := F2.binds (ps := ["number"]) fun _ _ _ _ _ _ us hl => match us, hl with | [_], _ => rfl
  have F3 := fun_mk (st := s_FloorOfMultiple) l3 c3 k3
  have b3 := F3.binds (ps := ["measure", "times"]) fun _ _ _ _ _ _ us hl => match us, hl with | [_, _], _ => rfl
  have F4 := fun_mk (st := s_LawHash) l4 c4 k4
  have b4 := F4.binds (ps := ["_law_seed", "_law_index"]) fun _ _ _ _ _ _ us hl => match us, hl with | [_, _], _ => rfl
  have F5 := fun_mk (st := s_LawCell) l5 c5 k5
  have b5 := F5.binds (ps := ["_law_script", "_law_index"]) fun _ _ _ _ _ _ us hl => match us, hl with | [_, _], _ => rfl
  have F6 := fun_mk (st := s_LawCommon) l6 c6 k6
  have b6 := F6.binds (ps := ["_law_one", "_law_other"]) fun _ _ _ _ _ _ us hl => match us, hl with | [_, _], _ => rfl
  have F7 := fun_mk (st := s_LawRoot) l7 c7 k7
  have b7 := F7.binds (ps := ["_law_number"]) fun _ _ _ _ _ _ us hl => match us, hl with | [_], _ => rfl
  have F8 := fun_mk (st := s_AreWholes) l8 c8 k8
  have b8 := F8.binds (ps := ["value", "many"]) fun _ _ _ _ _ _ us hl => match us, hl with | [_, _], _ => rfl
  have F9 := fun_mk (st := s_IsMeasure) l9 c9 k9
  have b9 := F9.binds (ps := ["value"]) fun _ _ _ _ _ _ us hl => match us, hl with | [_], _ => rfl
  have F10 := fun_mk (st := s_Reduced) l10 c10 k10
  have b10 := F10.binds (ps := ["measure", "x", "y", "below"]) fun _ _ _ _ _ _ us hl => match us, hl with | [_, _, _, _], _ => rfl
  have F11 := fun_mk (st := s_LawRandom) l11 c11 k11
  have b11 := F11.binds (ps := ["_law_generator_here", "_law_bound"]) fun _ _ _ _ _ _ us hl => match us, hl with | [_, _], _ => rfl
  have F12 := fun_mk (st := s_LawGenerator) l12 c12 k12
  have b12 := F12.binds (ps := ["_law_script", "_law_index"]) fun _ _ _ _ _ _ us hl => match us, hl with | [_, _], _ => rfl
  have F13 := fun_mk (st := s_LawLeast) l13 c13 k13
  have b13 := F13.binds (ps := ["_law_measure_here", "_law_x", "_law_y", "_law_below"]) fun _ _ _ _ _ _ us hl => match us, hl with | [_, _, _, _], _ => rfl
  have F14 := fun_mk (st := s_LawWrongRoots) l14 c14 k14
  have b14 := F14.binds (ps := ["_law_measure_here", "_law_root_here"]) fun _ _ _ _ _ _ us hl => match us, hl with | [_, _], _ => rfl
  have F15 := fun_mk (st := s_CheckMeasure) l15 c15 k15
  have b15 := F15.binds (ps := ["measure"]) fun _ _ _ _ _ _ us hl => match us, hl with | [_], _ => rfl
  have F16 := fun_mk (st := s_IsRootOf) l16 c16 k16
  have b16 := F16.binds (ps := ["measure", "value"]) fun _ _ _ _ _ _ us hl => match us, hl with | [_, _], _ => rfl
  have F17 := fun_mk (st := s_Total) l17 c17 k17
  have b17 := F17.binds (ps := ["measure", "one", "other", "times"]) fun _ _ _ _ _ _ us hl => match us, hl with | [_, _, _, _], _ => rfl
  have F18 := fun_mk (st := s_Multiplied) l18 c18 k18
  have b18 := F18.binds (ps := ["measure", "one", "other"]) fun _ _ _ _ _ _ us hl => match us, hl with | [_, _, _], _ => rfl
  have F19 := fun_mk (st := s_LawMeasure) l19 c19 k19
  have b19 := F19.binds (ps := ["_law_generator_here", "_law_figures"]) fun _ _ _ _ _ _ us hl => match us, hl with | [_, _], _ => rfl
  have F20 := fun_mk (st := s_LawDrawn) l20 c20 k20
  have b20 := F20.binds (ps := ["_law_generator_here", "_law_measure_here", "_law_figures"]) fun _ _ _ _ _ _ us hl => match us, hl with | [_, _, _], _ => rfl
  have F21 := fun_mk (st := s_IsRoot) l21 c21 k21
  have b21 := F21.binds (ps := ["measure", "value"]) fun _ _ _ _ _ _ us hl => match us, hl with | [_, _], _ => rfl
  have F22 := fun_mk (st := s_RootNumber) l22 c22 k22
  have b22 := F22.binds (ps := ["measure", "x", "y", "below"]) fun _ _ _ _ _ _ us hl => match us, hl with | [_, _, _, _], _ => rfl
  have F23 := fun_mk (st := s_Check) l23 c23 k23
  have b23 := F23.binds (ps := ["measure", "roots"]) fun _ _ _ _ _ _ us hl => match us, hl with | [_, _], _ => rfl
  have F24 := fun_mk (st := s_RootPlus) l24 c24 k24
  have b24 := F24.binds (ps := ["measure", "one", "other"]) fun _ _ _ _ _ _ us hl => match us, hl with | [_, _, _], _ => rfl
  have F25 := fun_mk (st := s_RootLess) l25 c25 k25
  have b25 := F25.binds (ps := ["measure", "one", "other"]) fun _ _ _ _ _ _ us hl => match us, hl with | [_, _, _], _ => rfl
  have F26 := fun_mk (st := s_RootTimes) l26 c26 k26
  have b26 := F26.binds (ps := ["measure", "one", "other"]) fun _ _ _ _ _ _ us hl => match us, hl with | [_, _, _], _ => rfl
  have F27 := fun_mk (st := s_RootOver) l27 c27 k27
  have b27 := F27.binds (ps := ["measure", "one", "other"]) fun _ _ _ _ _ _ us hl => match us, hl with | [_, _, _], _ => rfl
  have F28 := fun_mk (st := s_RootSide) l28 c28 k28
  have b28 := F28.binds (ps := ["measure", "root"]) fun _ _ _ _ _ _ us hl => match us, hl with | [_, _], _ => rfl
  have F29 := fun_mk (st := s_RootFloor) l29 c29 k29
  have b29 := F29.binds (ps := ["measure", "root"]) fun _ _ _ _ _ _ us hl => match us, hl with | [_, _], _ => rfl
  have F30 := fun_mk (st := s_LawAsked) l30 c30 k30
  have b30 := F30.binds (ps := ["_law_door", "_law_given"]) fun _ _ _ _ _ _ us hl => match us, hl with | [_, _], _ => rfl
  have F31 := fun_mk (st := s_LawTold) l31 c31 k31
  have b31 := F31.binds (ps := ["_law_door", "_law_given"]) fun _ _ _ _ _ _ us hl => match us, hl with | [_, _], _ => rfl
  have F32 := fun_mk (st := s_LawAllRefused) l32 c32 k32
  have b32 := F32.binds (ps := ["_law_doors", "_law_given", "_law_due", "_law_odd"]) fun _ _ _ _ _ _ us hl => match us, hl with | [_, _, _, _], _ => rfl
  have F33 := fun_mk (st := s_Law) l33 c33 k33
  have b33 := F33.binds (ps := ["_law_script"]) fun _ _ _ _ _ _ us hl => match us, hl with | [_], _ => rfl
  refine ⟨PySem.W.fnOf "law" "law" (defArgs s_Law) (defBody s_Law) (defScope s_Law) .none kV33 dc33 pm33 an33 cd33 ct33, fun s v => .of_eq rfl, fun base _ _ => ?_⟩
  have EC_SheetError : L2.ExcC K C_SheetError := ⟨ga_SheetError, gg_SheetError, eC_SheetError, hD_SheetError, hc_SheetError, hn_g, ht_g, mo_SheetError⟩
  have EC_InvalidMeasure : L2.ExcC K C_InvalidMeasure := ⟨ga_InvalidMeasure, gg_InvalidMeasure, eC_InvalidMeasure, hD_InvalidMeasure, hc_InvalidMeasure, hn_g, ht_g, mo_InvalidMeasure⟩
  have EC_InvalidRoot : L2.ExcC K C_InvalidRoot := ⟨ga_InvalidRoot, gg_InvalidRoot, eC_InvalidRoot, hD_InvalidRoot, hc_InvalidRoot, hn_g, ht_g, mo_InvalidRoot⟩
  have EC_InvalidNumber : L2.ExcC K C_InvalidNumber := ⟨ga_InvalidNumber, gg_InvalidNumber, eC_InvalidNumber, hD_InvalidNumber, hc_InvalidNumber, hn_g, ht_g, mo_InvalidNumber⟩
  have E_SheetError : ErrP K mg "SheetError" C_SheetError [.type "ValueError", .type "Exception", .type "BaseException", .type "object"] "ValueError" "ValueError.__new__" "ValueError.__init__" := ⟨F.excBase_ValueError, xS_SheetError, PySem.W.mg_of X G aC_SheetError, kC_SheetError, EC_SheetError⟩
  have T_InvalidMeasure : OexC K C_InvalidMeasure := ⟨⟨_, _, _, _, _, _, _, _, _, _, _, _, _, _, _, xL_InvalidMeasure, rfl⟩, sa_InvalidMeasure, eC_InvalidMeasure, tC_InvalidMeasure, kC_InvalidMeasure⟩
  have FI_InvalidMeasure : FunD K "__init__" "InvalidMeasure.__init__" (defArgs s_iInvalidMeasure) (defBody s_iInvalidMeasure) (defScope s_iInvalidMeasure) [V.non] [] f_InvalidMeasure (PySem.W.fnOf "__init__" "InvalidMeasure.__init__" (defArgs s_iInvalidMeasure) (defBody s_iInvalidMeasure) (defScope s_iInvalidMeasure) (.ref t_InvalidMeasure) kV_InvalidMeasure dc_InvalidMeasure pm_InvalidMeasure an_InvalidMeasure cd_InvalidMeasure ct_InvalidMeasure) := ⟨⟨oc_InvalidMeasure, od_InvalidMeasure, .ref t_InvalidMeasure, kV_InvalidMeasure, dc_InvalidMeasure, pm_InvalidMeasure, an_InvalidMeasure, cd_InvalidMeasure, ct_InvalidMeasure, sl_InvalidMeasure, rfl, l_InvalidMeasure, c_InvalidMeasure, .inr ⟨by simp, t_InvalidMeasure, _, [.none], tn_InvalidMeasure, rfl, lt_InvalidMeasure, rfl, .cons rfl .nil⟩, .inl rfl⟩, kf_InvalidMeasure⟩
  have E_InvalidMeasure : ErrN l.prog w K mg base "InvalidMeasure" C_InvalidMeasure f_InvalidMeasure _ := errN_mk iC_InvalidMeasure tI_InvalidMeasure (okiInvalidMeasure FI_InvalidMeasure T_InvalidMeasure nv_InvalidMeasure) (bdiInvalidMeasure FI_InvalidMeasure) T_InvalidMeasure (PySem.W.mg_of X G aC_InvalidMeasure) ga_InvalidMeasure gg_InvalidMeasure hD_InvalidMeasure EC_InvalidMeasure nv_InvalidMeasure
  have T_InvalidRoot : OexC K C_InvalidRoot := ⟨⟨_, _, _, _, _, _, _, _, _, _, _, _, _, _, _, xL_InvalidRoot, rfl⟩, sa_InvalidRoot, eC_InvalidRoot, tC_InvalidRoot, kC_InvalidRoot⟩
  have FI_InvalidRoot : FunD K "__init__" "InvalidRoot.__init__" (defArgs s_iInvalidRoot) (defBody s_iInvalidRoot) (defScope s_iInvalidRoot) [V.non] [] f_InvalidRoot (PySem.W.fnOf "__init__" "InvalidRoot.__init__" (defArgs s_iInvalidRoot) (defBody s_iInvalidRoot) (defScope s_iInvalidRoot) (.ref t_InvalidRoot) kV_InvalidRoot dc_InvalidRoot pm_InvalidRoot an_InvalidRoot cd_InvalidRoot ct_InvalidRoot) := ⟨⟨oc_InvalidRoot, od_InvalidRoot, .ref t_InvalidRoot, kV_InvalidRoot, dc_InvalidRoot, pm_InvalidRoot, an_InvalidRoot, cd_InvalidRoot, ct_InvalidRoot, sl_InvalidRoot, rfl, l_InvalidRoot, c_InvalidRoot, .inr ⟨by simp, t_InvalidRoot, _, [.none], tn_InvalidRoot, rfl, lt_InvalidRoot, rfl, .cons rfl .nil⟩, .inl rfl⟩, kf_InvalidRoot⟩
  have E_InvalidRoot : ErrN l.prog w K mg base "InvalidRoot" C_InvalidRoot f_InvalidRoot _ := errN_mk iC_InvalidRoot tI_InvalidRoot (okiInvalidRoot FI_InvalidRoot T_InvalidRoot nv_InvalidRoot) (bdiInvalidRoot FI_InvalidRoot) T_InvalidRoot (PySem.W.mg_of X G aC_InvalidRoot) ga_InvalidRoot gg_InvalidRoot hD_InvalidRoot EC_InvalidRoot nv_InvalidRoot
  have T_InvalidNumber : OexC K C_InvalidNumber := ⟨⟨_, _, _, _, _, _, _, _, _, _, _, _, _, _, _, xL_InvalidNumber, rfl⟩, sa_InvalidNumber, eC_InvalidNumber, tC_InvalidNumber, kC_InvalidNumber⟩
  have FI_InvalidNumber : FunD K "__init__" "InvalidNumber.__init__" (defArgs s_iInvalidNumber) (defBody s_iInvalidNumber) (defScope s_iInvalidNumber) [V.non] [] f_InvalidNumber (PySem.W.fnOf "__init__" "InvalidNumber.__init__" (defArgs s_iInvalidNumber) (defBody s_iInvalidNumber) (defScope s_iInvalidNumber) (.ref t_InvalidNumber) kV_InvalidNumber dc_InvalidNumber pm_InvalidNumber an_InvalidNumber cd_InvalidNumber ct_InvalidNumber) := ⟨⟨oc_InvalidNumber, od_InvalidNumber, .ref t_InvalidNumber, kV_InvalidNumber, dc_InvalidNumber, pm_InvalidNumber, an_InvalidNumber, cd_InvalidNumber, ct_InvalidNumber, sl_InvalidNumber, rfl, l_InvalidNumber, c_InvalidNumber, .inr ⟨by simp, t_InvalidNumber, _, [.none], tn_InvalidNumber, rfl, lt_InvalidNumber, rfl, .cons rfl .nil⟩, .inl rfl⟩, kf_InvalidNumber⟩
  have E_InvalidNumber : ErrN l.prog w K mg base "InvalidNumber" C_InvalidNumber f_InvalidNumber _ := errN_mk iC_InvalidNumber tI_InvalidNumber (okiInvalidNumber FI_InvalidNumber T_InvalidNumber nv_InvalidNumber) (bdiInvalidNumber FI_InvalidNumber) T_InvalidNumber (PySem.W.mg_of X G aC_InvalidNumber) ga_InvalidNumber gg_InvalidNumber hD_InvalidNumber EC_InvalidNumber nv_InvalidNumber
  have KT : Kit3 K C_InvalidMeasure C_InvalidRoot C_InvalidNumber C_SheetError := by
    refine ⟨fun C hC => ?_, fun i j C D hC hD => ?_, fun C hC => ?_, fun C hC => ?_, fun C hC => ?_, fun C hC => ?_⟩
    · simp only [List.mem_cons, List.not_mem_nil, or_false] at hC
      rcases hC with rfl | rfl | rfl
      · exact PySem.W.exm_ref eC_SheetError hD_SheetError tC_SheetError ss_InvalidMeasure
      · exact PySem.W.exm_ref eC_SheetError hD_SheetError tC_SheetError ss_InvalidRoot
      · exact PySem.W.exm_ref eC_SheetError hD_SheetError tC_SheetError ss_InvalidNumber
    · have hi : i < 3 := (List.getElem?_eq_some_iff.mp hC).1
      have hj : j < 3 := (List.getElem?_eq_some_iff.mp hD).1
      rcases (show i = 0 ∨ i = 1 ∨ i = 2 by omega) with rfl | rfl | rfl
      · cases hC
        rcases (show j = 0 ∨ j = 1 ∨ j = 2 by omega) with rfl | rfl | rfl
        · cases hD; exact kit_ref iS_InvalidMeasure tC_InvalidMeasure p_InvalidMeasure_InvalidMeasure p_InvalidMeasure_InvalidMeasure
        · cases hD; exact kit_ref iS_InvalidRoot tC_InvalidRoot p_InvalidRoot_InvalidRoot p_InvalidMeasure_InvalidRoot
        · cases hD; exact kit_ref iS_InvalidNumber tC_InvalidNumber p_InvalidNumber_InvalidNumber p_InvalidMeasure_InvalidNumber
      · cases hC
        rcases (show j = 0 ∨ j = 1 ∨ j = 2 by omega) with rfl | rfl | rfl
        · cases hD; exact kit_ref iS_InvalidMeasure tC_InvalidMeasure p_InvalidMeasure_InvalidMeasure p_InvalidRoot_InvalidMeasure
        · cases hD; exact kit_ref iS_InvalidRoot tC_InvalidRoot p_InvalidRoot_InvalidRoot p_InvalidRoot_InvalidRoot
        · cases hD; exact kit_ref iS_InvalidNumber tC_InvalidNumber p_InvalidNumber_InvalidNumber p_InvalidRoot_InvalidNumber
      · cases hC
        rcases (show j = 0 ∨ j = 1 ∨ j = 2 by omega) with rfl | rfl | rfl
        · cases hD; exact kit_ref iS_InvalidMeasure tC_InvalidMeasure p_InvalidMeasure_InvalidMeasure p_InvalidNumber_InvalidMeasure
        · cases hD; exact kit_ref iS_InvalidRoot tC_InvalidRoot p_InvalidRoot_InvalidRoot p_InvalidNumber_InvalidRoot
        · cases hD; exact kit_ref iS_InvalidNumber tC_InvalidNumber p_InvalidNumber_InvalidNumber p_InvalidNumber_InvalidNumber
    · simp only [List.mem_cons, List.not_mem_nil, or_false] at hC
      rcases hC with rfl | rfl | rfl
      · exact kit_ve sv_InvalidMeasure
      · exact kit_ve sv_InvalidRoot
      · exact kit_ve sv_InvalidNumber
    · simp only [List.mem_cons, List.not_mem_nil, or_false] at hC
      rcases hC with rfl | rfl | rfl
      · exact EC_InvalidMeasure
      · exact EC_InvalidRoot
      · exact EC_InvalidNumber
    · simp only [List.mem_cons, List.not_mem_nil, or_false] at hC
      rcases hC with rfl | rfl | rfl
      · exact E_InvalidMeasure.xf
      · exact E_InvalidRoot.xf
      · exact E_InvalidNumber.xf
    · simp only [List.mem_cons, List.not_mem_nil, or_false] at hC
      rcases hC with rfl | rfl | rfl
      · exact nv_InvalidMeasure
      · exact nv_InvalidRoot
      · exact nv_InvalidNumber
  have D_IsWhole : DefAt l.prog w K mg base 1 "is_whole" f0 _ ["value"] (spWhole) := ⟨(okIsWhole (P := l.prog) (w := w) (mg := mg) (base := base) F0 T    ), PySem.W.mg_of X G a0, k0, b0⟩
  have D_HasWholeRoot : DefAt l.prog w K mg base 1 "_has_whole_root" f1 _ ["measure"] (spHasRoot) := ⟨(okHasWholeRoot (P := l.prog) (w := w) (mg := mg) (base := base) F1 T    ), PySem.W.mg_of X G a1, k1, b1⟩
  have D_Side : DefAt l.prog w K mg base 1 "_side" f2 _ ["number"] (spSgn) := ⟨(okSide (P := l.prog) (w := w) (mg := mg) (base := base) F2 T    ), PySem.W.mg_of X G a2, k2, b2⟩
  have D_FloorOfMultiple : DefAt l.prog w K mg base 1 "_floor_of_multiple" f3 _ ["measure", "times"] (spFlM) := ⟨(okFloorOfMultiple (P := l.prog) (w := w) (mg := mg) (base := base) F3 T    ), PySem.W.mg_of X G a3, k3, b3⟩
  have D_LawHash : DefAt l.prog w K mg base 1 "_law_hash" f4 _ ["_law_seed", "_law_index"] (spHash) := ⟨(okLawHash (P := l.prog) (w := w) (mg := mg) (base := base) F4 T    ), PySem.W.mg_of X G a4, k4, b4⟩
  have D_LawCell : DefAt l.prog w K mg base 1 "_law_cell" f5 _ ["_law_script", "_law_index"] (spCell K) := ⟨(okLawCell (P := l.prog) (w := w) (mg := mg) (base := base) F5 T    ), PySem.W.mg_of X G a5, k5, b5⟩
  have D_LawCommon : DefAt l.prog w K mg base 1 "_law_common" f6 _ ["_law_one", "_law_other"] (spCommon) := ⟨(okLawCommon (P := l.prog) (w := w) (mg := mg) (base := base) F6 T    ), PySem.W.mg_of X G a6, k6, b6⟩
  have D_LawRoot : DefAt l.prog w K mg base 1 "_law_root" f7 _ ["_law_number"] (spRoot) := ⟨(okLawRoot (P := l.prog) (w := w) (mg := mg) (base := base) F7 T    ), PySem.W.mg_of X G a7, k7, b7⟩
  have D_AreWholes : DefAt l.prog w K mg base 2 "are_wholes" f8 _ ["value", "many"] (spWholes) := ⟨(okAreWholes (P := l.prog) (w := w) (mg := mg) (base := base) F8 T  D_IsWhole  ), PySem.W.mg_of X G a8, k8, b8⟩
  have D_IsMeasure : DefAt l.prog w K mg base 2 "is_measure" f9 _ ["value"] (spIsMeasure) := ⟨(okIsMeasure (P := l.prog) (w := w) (mg := mg) (base := base) F9 T  D_IsWhole  ), PySem.W.mg_of X G a9, k9, b9⟩
  have D_Reduced : DefAt l.prog w K mg base 2 "_reduced" f10 _ ["measure", "x", "y", "below"] (spReduced) := ⟨(okReduced (P := l.prog) (w := w) (mg := mg) (base := base) F10 T  D_HasWholeRoot  ), PySem.W.mg_of X G a10, k10, b10⟩
  have D_LawRandom : DefAt l.prog w K mg base 2 "_law_random" f11 _ ["_law_generator_here", "_law_bound"] (spRandom) := ⟨(okLawRandom (P := l.prog) (w := w) (mg := mg) (base := base) F11 T  D_LawHash  ), PySem.W.mg_of X G a11, k11, b11⟩
  have D_LawGenerator : DefAt l.prog w K mg base 2 "_law_generator" f12 _ ["_law_script", "_law_index"] (spGen K) := ⟨(okLawGenerator (P := l.prog) (w := w) (mg := mg) (base := base) F12 T  D_LawCell  ), PySem.W.mg_of X G a12, k12, b12⟩
  have D_LawLeast : DefAt l.prog w K mg base 2 "_law_least" f13 _ ["_law_measure_here", "_law_x", "_law_y", "_law_below"] (spLeast) := ⟨(okLawLeast (P := l.prog) (w := w) (mg := mg) (base := base) F13 T  D_LawRoot D_LawCommon  ), PySem.W.mg_of X G a13, k13, b13⟩
  have D_LawWrongRoots : DefAt l.prog w K mg base 2 "_law_wrong_roots" f14 _ ["_law_measure_here", "_law_root_here"] (spWrongRoots K) := ⟨(okLawWrongRoots (P := l.prog) (w := w) (mg := mg) (base := base) F14 T  D_LawRoot  ), PySem.W.mg_of X G a14, k14, b14⟩
  have X_CheckMeasure : DefX l.prog w K mg base 3 "check_measure" f15 _ ["measure"] (spCheckMeasureX C_InvalidMeasure) := ⟨(okXCheckMeasure (P := l.prog) (w := w) (mg := mg) (base := base) F15 T E_InvalidMeasure D_IsMeasure  ), PySem.W.mg_of X G a15, k15, b15⟩
  have D_IsRootOf : DefAt l.prog w K mg base 3 "_is_root_of" f16 _ ["measure", "value"] (spIsRootOf) := ⟨(okIsRootOf (P := l.prog) (w := w) (mg := mg) (base := base) F16 T  D_AreWholes D_HasWholeRoot  ), PySem.W.mg_of X G a16, k16, b16⟩
  have D_Total : DefAt l.prog w K mg base 3 "_total" f17 _ ["measure", "one", "other", "times"] (spTotal) := ⟨(okTotal (P := l.prog) (w := w) (mg := mg) (base := base) F17 T  D_Reduced  ), PySem.W.mg_of X G a17, k17, b17⟩
  have D_Multiplied : DefAt l.prog w K mg base 3 "_multiplied" f18 _ ["measure", "one", "other"] (spTimes) := ⟨(okMultiplied (P := l.prog) (w := w) (mg := mg) (base := base) F18 T  D_Reduced  ), PySem.W.mg_of X G a18, k18, b18⟩
  have D_LawMeasure : DefAt l.prog w K mg base 3 "_law_measure" f19 _ ["_law_generator_here", "_law_figures"] (spMeasure) := ⟨(okLawMeasure (P := l.prog) (w := w) (mg := mg) (base := base) F19 T  D_LawRandom D_LawRoot  ), PySem.W.mg_of X G a19, k19, b19⟩
  have D_LawDrawn : DefAt l.prog w K mg base 3 "_law_drawn" f20 _ ["_law_generator_here", "_law_measure_here", "_law_figures"] (spDrawn) := ⟨(okLawDrawn (P := l.prog) (w := w) (mg := mg) (base := base) F20 T  D_LawLeast D_LawRandom  ), PySem.W.mg_of X G a20, k20, b20⟩
  have X_IsRoot : DefX l.prog w K mg base 4 "is_root" f21 _ ["measure", "value"] (spIsRootX C_InvalidMeasure) := ⟨(okXIsRoot (P := l.prog) (w := w) (mg := mg) (base := base) F21 T  X_CheckMeasure D_IsRootOf  ), PySem.W.mg_of X G a21, k21, b21⟩
  have X_RootNumber : DefX l.prog w K mg base 4 "root_number" f22 _ ["measure", "x", "y", "below"] (spRootNumberX C_InvalidMeasure C_InvalidNumber) := ⟨(okXRootNumber (P := l.prog) (w := w) (mg := mg) (base := base) F22 T E_InvalidNumber X_CheckMeasure D_Reduced D_IsWhole  ), PySem.W.mg_of X G a22, k22, b22⟩
  have X_Check : DefX l.prog w K mg base 4 "_check" f23 _ ["measure", "roots"] (spCheckX C_InvalidMeasure C_InvalidRoot) := ⟨(okXCheck (P := l.prog) (w := w) (mg := mg) (base := base) F23 T E_InvalidRoot X_CheckMeasure D_IsRootOf  ), PySem.W.mg_of X G a23, k23, b23⟩
  have X_RootPlus : DefX l.prog w K mg base 5 "root_plus" f24 _ ["measure", "one", "other"] (spRoot2X C_InvalidMeasure C_InvalidRoot) := ⟨(okXRootPlus (P := l.prog) (w := w) (mg := mg) (base := base) F24 T  X_Check D_Total  ), PySem.W.mg_of X G a24, k24, b24⟩
  have X_RootLess : DefX l.prog w K mg base 5 "root_less" f25 _ ["measure", "one", "other"] (spRoot2X C_InvalidMeasure C_InvalidRoot) := ⟨(okXRootLess (P := l.prog) (w := w) (mg := mg) (base := base) F25 T  X_Check D_Total  ), PySem.W.mg_of X G a25, k25, b25⟩
  have X_RootTimes : DefX l.prog w K mg base 5 "root_times" f26 _ ["measure", "one", "other"] (spRoot2X C_InvalidMeasure C_InvalidRoot) := ⟨(okXRootTimes (P := l.prog) (w := w) (mg := mg) (base := base) F26 T  X_Check D_Multiplied  ), PySem.W.mg_of X G a26, k26, b26⟩
  have X_RootOver : DefX l.prog w K mg base 5 "root_over" f27 _ ["measure", "one", "other"] (spRootOverX C_InvalidMeasure C_InvalidRoot) := ⟨(okXRootOver (P := l.prog) (w := w) (mg := mg) (base := base) F27 T E_InvalidRoot X_Check D_Multiplied D_Reduced  ), PySem.W.mg_of X G a27, k27, b27⟩
  have X_RootSide : DefX l.prog w K mg base 5 "root_side" f28 _ ["measure", "root"] (spRoot1X C_InvalidMeasure C_InvalidRoot) := ⟨(okXRootSide (P := l.prog) (w := w) (mg := mg) (base := base) F28 T  X_Check D_Side  ), PySem.W.mg_of X G a28, k28, b28⟩
  have X_RootFloor : DefX l.prog w K mg base 5 "root_floor" f29 _ ["measure", "root"] (spRoot1X C_InvalidMeasure C_InvalidRoot) := ⟨(okXRootFloor (P := l.prog) (w := w) (mg := mg) (base := base) F29 T  X_Check D_FloorOfMultiple  ), PySem.W.mg_of X G a29, k29, b29⟩
  have X_LawAsked : DefX l.prog w K mg base 6 "_law_asked" f30 _ ["_law_door", "_law_given"] (spAskedX C_InvalidMeasure C_InvalidRoot C_InvalidNumber) := ⟨(okXLawAsked (P := l.prog) (w := w) (mg := mg) (base := base) F30 T E_InvalidMeasure E_InvalidRoot E_InvalidNumber X_RootNumber X_RootPlus X_RootLess X_RootTimes X_RootOver X_RootSide X_RootFloor X_IsRoot  ), PySem.W.mg_of X G a30, k30, b30⟩
  have D_LawTold : DefAt l.prog w K mg base 7 "_law_told" f31 _ ["_law_door", "_law_given"] (spTold5 C_InvalidMeasure C_InvalidRoot C_InvalidNumber) := ⟨(okLawTold (P := l.prog) (w := w) (mg := mg) (base := base) F31 T E_InvalidMeasure E_InvalidRoot E_InvalidNumber E_SheetError X_LawAsked KT ), PySem.W.mg_of X G a31, k31, b31⟩
  have D_LawAllRefused : DefG l.prog w K mg base 8 "_law_all_refused" f32 _ ["_law_doors", "_law_given", "_law_due", "_law_odd"] (spAllRefused K C_InvalidMeasure C_InvalidRoot C_InvalidNumber) := ⟨(okLawAllRefused (P := l.prog) (w := w) (mg := mg) (base := base) F32 T  D_LawTold  ), PySem.W.mg_of X G a32, k32, b32⟩
  exact (okLaw (P := l.prog) (w := w) (mg := mg) (base := base) F33 T E_InvalidMeasure E_InvalidRoot E_InvalidNumber E_SheetError D_LawGenerator D_LawWrongRoots D_LawRandom D_LawDrawn D_LawTold D_LawMeasure D_LawAllRefused KT )
theorem walk {l : PySem.W.OpenLaw} {q : Program} {loose : List Str} {XP : (Str → Option Value) → Heap → Prop} {YP : World → Heap → Prop} {d : DefRec} {K : Params → PySem.W.Frag} (hn : l.most = some 63) (hdf : d.params.defaults = [])
    (hY : ∀ (w : World) (h : Heap), YP w h → (K w.params).In h)
    (F : ∀ (w : World) (mg : Str → Option Value) (fa : Addr) (h : Heap), (K w.params).In h → h.Ns mainGlobals mg → mg d.name = some (.ref fa) →
      ∃ fd : FuncData, (∀ (s : Shared) (u : Value), BindsTo s fd ⟨[u], []⟩ [("_law_script", u)]) ∧ ∀ base : Heap, (K w.params).In base → base.Ns mainGlobals mg → FnG l.prog w (K w.params) mg base 9 fa fd ["_law_script"] (Kx.spLaw (K w.params))) :
    PySem.W.WalkO q loose XP YP l.row.toRowW d [] (fun f vs => PySem.call f vs) :=
  Kx.walkG (n := 63) (k := 9) (x := "_law_script") (sp := fun w => Kx.spLaw (K w.params)) hn (by decide) hdf ⟨rfl, by decide, by decide⟩ hY F (fun _ _ a ns hl _ hS => ⟨a, ns, rfl, hS, hl, fun _ => rfl⟩)
end L05

open PySem PySem.W PyProof.Rows
set_option maxRecDepth 100000 in
set_option maxHeartbeats 0 in
theorem PySem.Challenge.cw_slitsheets_k05_root_numbers_refused_holds : PySem.Challenge.rw_slitsheets_k05_root_numbers_refused.Holds := by
  w_on; o_law; k_head; (case hw => w_witness2)
  k_fill
  refine L05.walk (l := PySem.Challenge.rw_slitsheets_k05_root_numbers_refused) rfl rfl (fun w h Y => PySem.W.kIn_of Y) ?F
  case F =>
    intro w mg fa h KX G hmg
    refine' L05.all_mk KX G hmg ?a0 ?l0 ?c0 ?k0 ?a1 ?l1 ?c1 ?k1 ?a2 ?l2 ?c2 ?k2 ?a3 ?l3 ?c3 ?k3 ?a4 ?l4 ?c4 ?k4 ?a5 ?l5 ?c5 ?k5 ?a6 ?l6 ?c6 ?k6 ?a7 ?l7 ?c7 ?k7 ?a8 ?l8 ?c8 ?k8 ?a9 ?l9 ?c9 ?k9 ?a10 ?l10 ?c10 ?k10 ?a11 ?l11 ?c11 ?k11 ?a12 ?l12 ?c12 ?k12 ?a13 ?l13 ?c13 ?k13 ?a14 ?l14 ?c14 ?k14 ?a15 ?l15 ?c15 ?k15 ?a16 ?l16 ?c16 ?k16 ?a17 ?l17 ?c17 ?k17 ?a18 ?l18 ?c18 ?k18 ?a19 ?l19 ?c19 ?k19 ?a20 ?l20 ?c20 ?k20 ?a21 ?l21 ?c21 ?k21 ?a22 ?l22 ?c22 ?k22 ?a23 ?l23 ?c23 ?k23 ?a24 ?l24 ?c24 ?k24 ?a25 ?l25 ?c25 ?k25 ?a26 ?l26 ?c26 ?k26 ?a27 ?l27 ?c27 ?k27 ?a28 ?l28 ?c28 ?k28 ?a29 ?l29 ?c29 ?k29 ?a30 ?l30 ?c30 ?k30 ?a31 ?l31 ?c31 ?k31 ?a32 ?l32 ?c32 ?k32 ?a33 ?l33 ?c33 ?k33 ?z_ValueError ?z_abs ?z_all ?z_bool ?z_int ?z_isinstance ?z_len ?z_list ?z_max ?z_range ?z_repr ?z_sum ?z_tuple ?z_gcd ?z_isqrt ?aC_SheetError ?xS_SheetError ?hn_g ?ht_g ?ga_SheetError ?gg_SheetError ?hc_SheetError ?kC_SheetError ?eC_SheetError ?tC_SheetError ?hD_SheetError ?iS_SheetError ?mo_SheetError ?sv_SheetError ?aC_InvalidMeasure ?xL_InvalidMeasure ?sa_InvalidMeasure ?nv_InvalidMeasure ?iC_InvalidMeasure ?tI_InvalidMeasure ?l_InvalidMeasure ?c_InvalidMeasure ?kf_InvalidMeasure ?lt_InvalidMeasure ?ss_InvalidMeasure ?sf_InvalidMeasure ?ga_InvalidMeasure ?gg_InvalidMeasure ?hc_InvalidMeasure ?kC_InvalidMeasure ?eC_InvalidMeasure ?tC_InvalidMeasure ?hD_InvalidMeasure ?iS_InvalidMeasure ?mo_InvalidMeasure ?sv_InvalidMeasure ?aC_InvalidRoot ?xL_InvalidRoot ?sa_InvalidRoot ?nv_InvalidRoot ?iC_InvalidRoot ?tI_InvalidRoot ?l_InvalidRoot ?c_InvalidRoot ?kf_InvalidRoot ?lt_InvalidRoot ?ss_InvalidRoot ?sf_InvalidRoot ?ga_InvalidRoot ?gg_InvalidRoot ?hc_InvalidRoot ?kC_InvalidRoot ?eC_InvalidRoot ?tC_InvalidRoot ?hD_InvalidRoot ?iS_InvalidRoot ?mo_InvalidRoot ?sv_InvalidRoot ?aC_InvalidNumber ?xL_InvalidNumber ?sa_InvalidNumber ?nv_InvalidNumber ?iC_InvalidNumber ?tI_InvalidNumber ?l_InvalidNumber ?c_InvalidNumber ?kf_InvalidNumber ?lt_InvalidNumber ?ss_InvalidNumber ?sf_InvalidNumber ?ga_InvalidNumber ?gg_InvalidNumber ?hc_InvalidNumber ?kC_InvalidNumber ?eC_InvalidNumber ?tC_InvalidNumber ?hD_InvalidNumber ?iS_InvalidNumber ?mo_InvalidNumber ?sv_InvalidNumber ?p_SheetError_SheetError ?p_InvalidMeasure_InvalidMeasure ?p_InvalidMeasure_InvalidRoot ?p_InvalidMeasure_InvalidNumber ?p_InvalidRoot_InvalidMeasure ?p_InvalidRoot_InvalidRoot ?p_InvalidRoot_InvalidNumber ?p_InvalidNumber_InvalidMeasure ?p_InvalidNumber_InvalidRoot ?p_InvalidNumber_InvalidNumber
    (case a0 => first | k_is | rfl)
    (case l0 => first | k_is | rfl)
    (case c0 => first | k_is | rfl)
    (case k0 => first | k_is | rfl)
    (case a1 => first | k_is | rfl)
    (case l1 => first | k_is | rfl)
    (case c1 => first | k_is | rfl)
    (case k1 => first | k_is | rfl)
    (case a2 => first | k_is | rfl)
    (case l2 => first | k_is | rfl)
    (case c2 => first | k_is | rfl)
    (case k2 => first | k_is | rfl)
    (case a3 => first | k_is | rfl)
    (case l3 => first | k_is | rfl)
    (case c3 => first | k_is | rfl)
    (case k3 => first | k_is | rfl)
    (case a4 => first | k_is | rfl)
    (case l4 => first | k_is | rfl)
    (case c4 => first | k_is | rfl)
    (case k4 => first | k_is | rfl)
    (case a5 => first | k_is | rfl)
    (case l5 => first | k_is | rfl)
    (case c5 => first | k_is | rfl)
    (case k5 => first | k_is | rfl)
    (case a6 => first | k_is | rfl)
    (case l6 => first | k_is | rfl)
    (case c6 => first | k_is | rfl)
    (case k6 => first | k_is | rfl)
    (case a7 => first | k_is | rfl)
    (case l7 => first | k_is | rfl)
    (case c7 => first | k_is | rfl)
    (case k7 => first | k_is | rfl)
    (case a8 => first | k_is | rfl)
    (case l8 => first | k_is | rfl)
    (case c8 => first | k_is | rfl)
    (case k8 => first | k_is | rfl)
    (case a9 => first | k_is | rfl)
    (case l9 => first | k_is | rfl)
    (case c9 => first | k_is | rfl)
    (case k9 => first | k_is | rfl)
    (case a10 => first | k_is | rfl)
    (case l10 => first | k_is | rfl)
    (case c10 => first | k_is | rfl)
    (case k10 => first | k_is | rfl)
    (case a11 => first | k_is | rfl)
    (case l11 => first | k_is | rfl)
    (case c11 => first | k_is | rfl)
    (case k11 => first | k_is | rfl)
    (case a12 => first | k_is | rfl)
    (case l12 => first | k_is | rfl)
    (case c12 => first | k_is | rfl)
    (case k12 => first | k_is | rfl)
    (case a13 => first | k_is | rfl)
    (case l13 => first | k_is | rfl)
    (case c13 => first | k_is | rfl)
    (case k13 => first | k_is | rfl)
    (case a14 => first | k_is | rfl)
    (case l14 => first | k_is | rfl)
    (case c14 => first | k_is | rfl)
    (case k14 => first | k_is | rfl)
    (case a15 => first | k_is | rfl)
    (case l15 => first | k_is | rfl)
    (case c15 => first | k_is | rfl)
    (case k15 => first | k_is | rfl)
    (case a16 => first | k_is | rfl)
    (case l16 => first | k_is | rfl)
    (case c16 => first | k_is | rfl)
    (case k16 => first | k_is | rfl)
    (case a17 => first | k_is | rfl)
    (case l17 => first | k_is | rfl)
    (case c17 => first | k_is | rfl)
    (case k17 => first | k_is | rfl)
    (case a18 => first | k_is | rfl)
    (case l18 => first | k_is | rfl)
    (case c18 => first | k_is | rfl)
    (case k18 => first | k_is | rfl)
    (case a19 => first | k_is | rfl)
    (case l19 => first | k_is | rfl)
    (case c19 => first | k_is | rfl)
    (case k19 => first | k_is | rfl)
    (case a20 => first | k_is | rfl)
    (case l20 => first | k_is | rfl)
    (case c20 => first | k_is | rfl)
    (case k20 => first | k_is | rfl)
    (case a21 => first | k_is | rfl)
    (case l21 => first | k_is | rfl)
    (case c21 => first | k_is | rfl)
    (case k21 => first | k_is | rfl)
    (case a22 => first | k_is | rfl)
    (case l22 => first | k_is | rfl)
    (case c22 => first | k_is | rfl)
    (case k22 => first | k_is | rfl)
    (case a23 => first | k_is | rfl)
    (case l23 => first | k_is | rfl)
    (case c23 => first | k_is | rfl)
    (case k23 => first | k_is | rfl)
    (case a24 => first | k_is | rfl)
    (case l24 => first | k_is | rfl)
    (case c24 => first | k_is | rfl)
    (case k24 => first | k_is | rfl)
    (case a25 => first | k_is | rfl)
    (case l25 => first | k_is | rfl)
    (case c25 => first | k_is | rfl)
    (case k25 => first | k_is | rfl)
    (case a26 => first | k_is | rfl)
    (case l26 => first | k_is | rfl)
    (case c26 => first | k_is | rfl)
    (case k26 => first | k_is | rfl)
    (case a27 => first | k_is | rfl)
    (case l27 => first | k_is | rfl)
    (case c27 => first | k_is | rfl)
    (case k27 => first | k_is | rfl)
    (case a28 => first | k_is | rfl)
    (case l28 => first | k_is | rfl)
    (case c28 => first | k_is | rfl)
    (case k28 => first | k_is | rfl)
    (case a29 => first | k_is | rfl)
    (case l29 => first | k_is | rfl)
    (case c29 => first | k_is | rfl)
    (case k29 => first | k_is | rfl)
    (case a30 => first | k_is | rfl)
    (case l30 => first | k_is | rfl)
    (case c30 => first | k_is | rfl)
    (case k30 => first | k_is | rfl)
    (case a31 => first | k_is | rfl)
    (case l31 => first | k_is | rfl)
    (case c31 => first | k_is | rfl)
    (case k31 => first | k_is | rfl)
    (case a32 => first | k_is | rfl)
    (case l32 => first | k_is | rfl)
    (case c32 => first | k_is | rfl)
    (case k32 => first | k_is | rfl)
    (case a33 => first | k_is | rfl)
    (case l33 => first | k_is | rfl)
    (case c33 => first | k_is | rfl)
    (case k33 => first | k_is | rfl)
    (case z_ValueError => first | k_is | rfl)
    (case z_abs => first | k_is | rfl)
    (case z_all => first | k_is | rfl)
    (case z_bool => first | k_is | rfl)
    (case z_int => first | k_is | rfl)
    (case z_isinstance => first | k_is | rfl)
    (case z_len => first | k_is | rfl)
    (case z_list => first | k_is | rfl)
    (case z_max => first | k_is | rfl)
    (case z_range => first | k_is | rfl)
    (case z_repr => first | k_is | rfl)
    (case z_sum => first | k_is | rfl)
    (case z_tuple => first | k_is | rfl)
    (case z_gcd => first | k_is | rfl)
    (case z_isqrt => first | k_is | rfl)
    (case aC_SheetError => first | k_is | rfl)
    (case xS_SheetError => k_exc)
    (case hn_g => first | k_is | rfl)
    (case ht_g => first | k_is | rfl)
    (case ga_SheetError => first | k_is | rfl)
    (case gg_SheetError => first | k_is | rfl)
    (case hc_SheetError => first | k_is | rfl)
    (case kC_SheetError => first | k_is | rfl)
    (case eC_SheetError => first | k_is | rfl)
    (case tC_SheetError => first | k_is | rfl)
    (case hD_SheetError => first | k_is | rfl)
    (case iS_SheetError => first | k_is | rfl)
    (case mo_SheetError => first | k_is | rfl)
    (case sv_SheetError => first | k_is | rfl)
    (case aC_InvalidMeasure => first | k_is | rfl)
    (case xL_InvalidMeasure => first | k_is | rfl)
    (case sa_InvalidMeasure => first | k_is | rfl)
    (case nv_InvalidMeasure => first | k_is | rfl)
    (case iC_InvalidMeasure => first | k_is | rfl)
    (case tI_InvalidMeasure => first | k_is | rfl)
    (case l_InvalidMeasure => first | k_is | rfl)
    (case c_InvalidMeasure => first | k_is | rfl)
    (case kf_InvalidMeasure => first | k_is | rfl)
    (case lt_InvalidMeasure => first | k_is | rfl)
    (case ss_InvalidMeasure => first | k_is | rfl)
    (case sf_InvalidMeasure => first | k_is | rfl)
    (case ga_InvalidMeasure => first | k_is | rfl)
    (case gg_InvalidMeasure => first | k_is | rfl)
    (case hc_InvalidMeasure => first | k_is | rfl)
    (case kC_InvalidMeasure => first | k_is | rfl)
    (case eC_InvalidMeasure => first | k_is | rfl)
    (case tC_InvalidMeasure => first | k_is | rfl)
    (case hD_InvalidMeasure => first | k_is | rfl)
    (case iS_InvalidMeasure => first | k_is | rfl)
    (case mo_InvalidMeasure => first | k_is | rfl)
    (case sv_InvalidMeasure => first | k_is | rfl)
    (case aC_InvalidRoot => first | k_is | rfl)
    (case xL_InvalidRoot => first | k_is | rfl)
    (case sa_InvalidRoot => first | k_is | rfl)
    (case nv_InvalidRoot => first | k_is | rfl)
    (case iC_InvalidRoot => first | k_is | rfl)
    (case tI_InvalidRoot => first | k_is | rfl)
    (case l_InvalidRoot => first | k_is | rfl)
    (case c_InvalidRoot => first | k_is | rfl)
    (case kf_InvalidRoot => first | k_is | rfl)
    (case lt_InvalidRoot => first | k_is | rfl)
    (case ss_InvalidRoot => first | k_is | rfl)
    (case sf_InvalidRoot => first | k_is | rfl)
    (case ga_InvalidRoot => first | k_is | rfl)
    (case gg_InvalidRoot => first | k_is | rfl)
    (case hc_InvalidRoot => first | k_is | rfl)
    (case kC_InvalidRoot => first | k_is | rfl)
    (case eC_InvalidRoot => first | k_is | rfl)
    (case tC_InvalidRoot => first | k_is | rfl)
    (case hD_InvalidRoot => first | k_is | rfl)
    (case iS_InvalidRoot => first | k_is | rfl)
    (case mo_InvalidRoot => first | k_is | rfl)
    (case sv_InvalidRoot => first | k_is | rfl)
    (case aC_InvalidNumber => first | k_is | rfl)
    (case xL_InvalidNumber => first | k_is | rfl)
    (case sa_InvalidNumber => first | k_is | rfl)
    (case nv_InvalidNumber => first | k_is | rfl)
    (case iC_InvalidNumber => first | k_is | rfl)
    (case tI_InvalidNumber => first | k_is | rfl)
    (case l_InvalidNumber => first | k_is | rfl)
    (case c_InvalidNumber => first | k_is | rfl)
    (case kf_InvalidNumber => first | k_is | rfl)
    (case lt_InvalidNumber => first | k_is | rfl)
    (case ss_InvalidNumber => first | k_is | rfl)
    (case sf_InvalidNumber => first | k_is | rfl)
    (case ga_InvalidNumber => first | k_is | rfl)
    (case gg_InvalidNumber => first | k_is | rfl)
    (case hc_InvalidNumber => first | k_is | rfl)
    (case kC_InvalidNumber => first | k_is | rfl)
    (case eC_InvalidNumber => first | k_is | rfl)
    (case tC_InvalidNumber => first | k_is | rfl)
    (case hD_InvalidNumber => first | k_is | rfl)
    (case iS_InvalidNumber => first | k_is | rfl)
    (case mo_InvalidNumber => first | k_is | rfl)
    (case sv_InvalidNumber => first | k_is | rfl)
    (case p_SheetError_SheetError => first | k_is | rfl)
    (case p_InvalidMeasure_InvalidMeasure => first | k_is | rfl)
    (case p_InvalidMeasure_InvalidRoot => first | k_is | rfl)
    (case p_InvalidMeasure_InvalidNumber => first | k_is | rfl)
    (case p_InvalidRoot_InvalidMeasure => first | k_is | rfl)
    (case p_InvalidRoot_InvalidRoot => first | k_is | rfl)
    (case p_InvalidRoot_InvalidNumber => first | k_is | rfl)
    (case p_InvalidNumber_InvalidMeasure => first | k_is | rfl)
    (case p_InvalidNumber_InvalidRoot => first | k_is | rfl)
    (case p_InvalidNumber_InvalidNumber => first | k_is | rfl)
