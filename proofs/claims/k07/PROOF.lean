import PyProof.Rows.All
import Wide.All
import OpenK.AllK
import Wide.FinOn
import PyProof.EqAt
import PyProof.EqKinds
import PyProof.TupleCall
import HandS.ForMost
import HandS.IsInst
import HandS.Gcd
import HandS.Wide
import HandS.WideBits
import HandS.Style
import HandS.ForExc
import Flt.RightSqrt
import HandS.OwnEq
import HandS.TupAny
import PySem.Challenge.RW_slitsheets_k07_cuttings_judged
set_option Elab.async false
set_option linter.all false
set_option maxRecDepth 100000
set_option maxHeartbeats 4000000
set_option exponentiation.threshold 4000
/-! Rules and words that all laws share. -/
namespace Kx
open PySem PySem.Spec PyProof.Rows L2

abbrev SV := L2.St
/-! ### a def of the text under its name -/
structure DefAt (P : Program) (w : World) (K : PySem.W.Frag) (mg : Str → Option Value) (base : Heap) (k : Nat) (x : Str) (f : Addr) (fd : FuncData) (ps : List Str) (sp : Sp) : Prop where
  F : FnOk P w K mg base CX0 k f fd ps sp
  m : mg x = some (.ref f)
  kp : PySem.W.keepIn K (.ref f) = true
  b : Binds K fd ps []
def tD (sp : Sp) (t : TA) : TE := fun σ H Q => t σ H fun vs H1 => sp vs H1 Q E0
def tDK (sp : Sp) (gV : List V → List V) (t : TA) : TE := fun σ H Q => t σ H fun zs H1 => sp (gV zs) H1 Q E0
section
variable {X : Cx} {k j : Nat} {f : Addr} {fd : FuncData} {ps ks : List Str} {sp : Sp} {x : Str} {p pos : Pos} {e : Expr} {es : List Expr} {t tk : TA} {kws : List Keyword}
theorem pe_d (D : DefAt X.prog X.w X.K X.mg X.base k x f fd ps sp) (hr : Room j X.A) (ha : PA X (e :: es) t) (hkj : k ≤ j := by decide) (hg : Gl X x := by rfl) (hdb : (x == ("__debug__" : Str)) = false := by decide)
    (he : starEach (e :: es) X.env = (false, eval e X.env) :: starEach es X.env := by rfl) (hpl : (backTo pos (starEach es X.env)).any (·.1) = false := by rfl) : PE X (.Call (.Name x p) (e :: es) [] pos) (tD sp t) := by
  refine ⟨fun pins s σ H Q I h => ?_⟩
  refine (pe_call (dvs := []) D.F (hr.mono hkj) hg D.m D.kp D.b .nil pass0 ha hdb he hpl).run pins s σ H Q I ?_
  have e : (tCall sp [] E0 t) = tD sp t := by funext a b c; unfold tCall tD; simp only [List.append_nil]
  rw [e]
  exact h
/-- how a call by keywords alone binds -/
structure KB0 (K : PySem.W.Frag) (fd : FuncData) (ps ks : List Str) (g : List Value → List Value) (gV : List V → List V) : Prop where
  to : ∀ (s : Shared) (ws : List Value), ws.length = ks.length → BindsTo s fd ⟨[], ks.zip ws⟩ (ps.zip (g ws))
  rel : ∀ {zs : List V} {ws : List Value}, zs.length = ks.length → Vals zs ws → Vals (gV zs) (g ws)
  ln : ∀ zs : List V, (gV zs).length = ps.length → zs.length = ks.length
/-- f(k = v, ..): keywords alone -/
theorem pe_dk {g : List Value → List Value} {gV : List V → List V} (D : DefAt X.prog X.w X.K X.mg X.base k x f fd ps sp) (hr : Room j X.A) (hb : KB0 X.K fd ps ks g gV) (hkw : PK X kws tk) (hkj : k ≤ j := by decide) (hg : Gl X x := by rfl)
    (hall : (backToKw pos (keywordEach kws X.env)).all (·.1.isSome) = true := by rfl) (hks : (backToKw pos (keywordEach kws X.env)).filterMap (·.1) = ks := by rfl) (hdb : (x == ("__debug__" : Str)) = false := by decide)
    (hpl : ((backTo pos (starEach [] X.env)).any (·.1) || (backToKw pos (keywordEach kws X.env)).any (·.1.isNone)) = false := by rfl) :
    PE X (.Call (.Name x p) [] kws pos) (tDK sp gV tk) := by
  refine ⟨fun pins s σ H Q I h => ?_⟩
  refine wpAny_Call_Name_kw (ld_glob I hg D.m ?_ hdb)
  refine PySem.W.callWith_KW0 (h₀ := X.base) I.ok.mod.kin D.kp hall ?_ hpl
  refine thn (hkw.run pos pins s σ H _ I h) fun ws s2 ⟨zs, H2, I2, rz, q2⟩ => ⟨I2.kIn, ?_⟩
  rw [hks]
  have lz := hb.ln zs (D.F.len _ _ _ _ q2)
  have b := hb.to s2 ws (rz.length.symm.trans lz)
  refine wpAny_call (codeAny_mono (D.F.run X.A X.stack s2 H2 ⟨[], ks.zip ws⟩ (g ws) (gV zs) Q E0 (hr.mono hkj) I2.env0 b (hb.rel lz rz) q2) fun r s' hq => ?_)
  cases r with
  | error e => exact (hq : False).elim
  | ok fl =>
    cases fl with
    | ret u => exact I2.after hq
    | next => exact False.elim hq
    | brk => exact False.elim hq
    | cont => exact False.elim hq
theorem kb_mk {K : PySem.W.Frag} {x qual : Str} {st : Stmt} {f : Addr} {fd : FuncData} {ps ks : List Str} {g : List Value → List Value} {gV : List V → List V} (F : Fun K x qual st f fd)
    (h : ∀ (kV doc pm : Value) (an : Option Addr) (cdv ct : Value) (ws : List Value), ws.length = ks.length → bindArgs (PySem.W.fnOf x qual (defArgs st) (defBody st) (defScope st) .none kV doc pm an cdv ct) ⟨[], ks.zip ws⟩ = pure (ps.zip (g ws)))
    (hr : ∀ {zs : List V} {ws : List Value}, zs.length = ks.length → Vals zs ws → Vals (gV zs) (g ws)) (hl : ∀ zs : List V, (gV zs).length = ps.length → zs.length = ks.length) : KB0 K fd ps ks g gV := by
  obtain ⟨oc, od, kV, doc, pm, an, cdv, ct, osl, rfl, lk, hcd⟩ := F.ex
  exact ⟨fun s ws hw => .of_eq (h kV doc pm an cdv ct ws hw), hr, hl⟩
end

/-! ### numbers -/
/-- a divisor but 0 of at most 9000 bits -/
def DivOk (j : Int) : Prop := j ≠ 0 ∧ j.natAbs.log2 < 9000
def PowOk (i j : Int) : Prop := 0 ≤ j ∧ (Builtin.Int.intBits i : Int) * j ≤ 2 ^ 27
section
variable {X : Cx}
theorem op_fdivX : OpR X (binaryOp .FloorDiv) (rI (fun _ j => DivOk j) fun i j => .int (i.fdiv j)) := opI fun i j _ _ _ _ _ hc q =>
  floordiv_int hc.1 q (.inl (PyProof.noPylong_of_log2 hc.2))
theorem op_mulU : OpR X (binaryOp .Mult) (rI IntMulOk fun i j => .int (i * j)) := opI fun _ _ _ _ _ _ _ hc q => mul_int q hc
/-- ** of numbers whose power has at most 2 ^ 27 bits -/
theorem op_powX : OpR X (binaryOp .Pow) (rI PowOk fun i j => .int (i ^ j.toNat)) := opI fun _ _ _ _ _ _ _ hc q => pow_int hc.1 hc.2 q
/-- math.isqrt -/
def rt (n : Int) : Int := ((Float64.isqrt n.toNat : Nat) : Int)
theorem cr_isqrt : CallR X (.builtin "math.isqrt") (fun vs H Q => ∃ a : Int, vs = [.int a] ∧ 0 ≤ a ∧ a.toNat.log2 < 13000 ∧ Q (.int (rt a)) H) := by
  intro pins s σ H vs us Q I r h
  obtain ⟨a, rfl, h0, h1, q⟩ := h
  obtain ⟨u, rfl, t, rfl⟩ := vals1 r
  exact call_function_meets PySem.W.MGF.kind_isqrt PySem.W.MGF.plain_isqrt PySem.W.MGF.entry_isqrt (PySem.W.MGF.args_isqrt _) (PySem.W.mg_run_isqrt a t (by omega) (by omega) (by omega)).meets ⟨.int _, H, I.tok _, ⟨_, rfl⟩, q⟩
theorem cr_int : CallR X (.type "int") (fun xs H Q => ∃ i, xs = [.int i] ∧ Q (.int i) H) := fun pins s σ H xs us Q I r h => call_int1 pins s σ H xs us Q I r (.inl h)
/-- repr of a number, of True, False, None -/
def flatText : V → Option Str
  | .int i => if i.natAbs.log2 < 1920 then some (toString i) else none
  | .bl b => some (if b then "True" else "False")
  | .non => some "None"
  | _ => none
theorem cr_repr : CallR X (.builtin "repr") (fun vs H Q => ∃ (x : V) (z : Str), vs = [x] ∧ flatText x = some z ∧ Q (.str z) H) := by
  intro pins s σ H vs us Q I r h
  obtain ⟨x, z, rfl, hz, q⟩ := h
  obtain ⟨u, rfl, rx⟩ := vals1 r
  cases x with
  | int i =>
    obtain ⟨t, rfl⟩ := rx
    have hz2 : (if i.natAbs.log2 < 1920 then some (toString i : Str) else Option.none) = some z := hz
    by_cases hl : i.natAbs.log2 < 1920
    · rw [if_pos hl] at hz2
      have hz3 := Option.some.inj hz2
      subst hz3
      exact PySem.P.repr_of_int hl ⟨.str _, H, I.tok _, ⟨_, rfl⟩, q⟩
    · rw [if_neg hl] at hz2
      cases hz2
  | bl b =>
    cases rx
    cases hz
    exact PySem.P.repr_of_bool ⟨.str _, H, I.tok _, ⟨_, rfl⟩, q⟩
  | non =>
    cases rx
    cases hz
    exact PySem.P.repr_of_none ⟨.str _, H, I.tok _, ⟨_, rfl⟩, q⟩
  | str _ => cases hz
  | byt _ => cases hz
  | flt _ => cases hz
  | ref _ => cases hz
  | ty _ => cases hz
end

/-! ### loops, opened by hand -/
section
variable {wi : TI} {g : TG} {tb : TS} {D : Ends} {σ : SV} {H : Hp} {c : TT} {tt : TT} {te : TE} {vs : List Nat}
def ForW (J : It) (g : TG) (tb : TS) (D : Ends) (σ : SV) (H1 : Hp) : Prop := ∃ W : Nat → Nat → SV → Hp → Prop, (∃ m, W 0 m σ H1) ∧ ∀ i m σ H, W i m σ H →
  (J.stop i H ∧ D.nx σ H) ∨ (J.go i H ∧ ∃ N : SV → Hp → Prop, (∀ σ' H', N σ' H' → ∃ m', m' < m ∧ W (i + 1) m' σ' H') ∧ ∀ x H', J.yld i H x H' → g x σ H' fun σ2 H2 => tb { D with nx := N, ct := N, bk := D.nx } σ2 H2)
theorem tFor_eq : tFor wi g tb = fun D σ H => wi σ H fun J H1 => ForW J g tb D σ H1 := rfl
theorem forW_range {n : Nat} {lo : Int} (Pv : Nat → SV → Hp → Prop) (h0 : Pv 0 σ H) (hs : ∀ i σ' H', i < n → Pv i σ' H' → g (.int (lo + i)) σ' H' fun σ2 H2 => tb { D with nx := Pv (i + 1), ct := Pv (i + 1), bk := D.nx } σ2 H2)
    (hd : ∀ σ' H', Pv n σ' H' → D.nx σ' H') : ForW (Itr lo n) g tb D σ H := for_range Pv h0 hs hd
theorem forW_list {K : PySem.W.Frag} {a : Addr} {xs : List V} (Pv : Nat → SV → Hp → Prop) (h0 : Pv 0 σ H) (hl : ∀ i σ H, i ≤ xs.length → Pv i σ H → SqL K H a xs)
    (hs : ∀ i x σ' H', xs[i]? = some x → Pv i σ' H' → g x σ' H' fun σ2 H2 => tb { D with nx := Pv (i + 1), ct := Pv (i + 1), bk := D.nx } σ2 H2) (hd : ∀ σ' H', Pv xs.length σ' H' → D.nx σ' H') : ForW (Itl K a) g tb D σ H := for_list Pv h0 hl hs hd
theorem forW_tup {K : PySem.W.Frag} {a : Addr} {xs : List V} (Pv : Nat → SV → Hp → Prop) (h0 : Pv 0 σ H) (hl : ∀ i σ H, i ≤ xs.length → Pv i σ H → SqT K H a xs)
    (hs : ∀ i x σ' H', xs[i]? = some x → Pv i σ' H' → g x σ' H' fun σ2 H2 => tb { D with nx := Pv (i + 1), ct := Pv (i + 1), bk := D.nx } σ2 H2) (hd : ∀ σ' H', Pv xs.length σ' H' → D.nx σ' H') : ForW (Itt K a) g tb D σ H := for_tup Pv h0 hl hs hd
def WStep (W : Nat → SV → Hp → Prop) (m : Nat) (tb : TS) (D : Ends) (σ : SV) (H1 : Hp) : Prop := ∃ N : SV → Hp → Prop, (∀ σ' H', N σ' H' → ∃ m', m' < m ∧ W m' σ' H') ∧ tb { D with nx := N, ct := N, bk := D.nx } σ H1
theorem whileI (Pv : SV → Hp → Prop) (μ : SV → Hp → Nat) (h0 : Pv σ H) (hs : ∀ σ' H', Pv σ' H' → c σ' H' fun b H1 => if b = true then WStep (fun m σ H => m = μ σ H ∧ Pv σ H) (μ σ' H') tb D σ' H1 else D.nx σ' H1) : tWhile c tb D σ H :=
  ⟨fun m σ H => m = μ σ H ∧ Pv σ H, ⟨_, rfl, h0⟩, by
    rintro m σ1 H1 ⟨rfl, p⟩
    exact hs σ1 H1 p⟩
theorem wstep {Pv : SV → Hp → Prop} {μ : SV → Hp → Nat} {m : Nat} {H1 : Hp} (h : tb { D with nx := fun σ' H' => Pv σ' H' ∧ μ σ' H' < m, ct := fun σ' H' => Pv σ' H' ∧ μ σ' H' < m, bk := D.nx } σ H1) : WStep (fun m σ H => m = μ σ H ∧ Pv σ H) m tb D σ H1 :=
  ⟨_, fun σ' H' z => ⟨_, z.2, rfl, z.1⟩, h⟩
def LcW (J : It) (g : TG) (tt : TT) (te : TE) (vs : List Nat) (D : Addr) (σ : SV) (H1 : Hp) (Q : VK) : Prop := ∃ W : Nat → Nat → Hp → Prop, (∃ m, W 0 m (upd H1 D (.lst []))) ∧ ∀ i m H, W i m H →
  (J.stop i H ∧ Q (.ref D) H) ∨ (J.go i H ∧ ∃ Ny : Hp → Prop, (∀ H', Ny H' → ∃ m', m' < m ∧ W (i + 1) m' H') ∧ ∀ x H', J.yld i H x H' → g x (wipe σ vs) H' fun σ2 H2 => wipe σ2 vs = wipe σ vs ∧ tt σ2 H2 fun b H3 =>
    if b = true then te σ2 H3 fun y H4 => ∃ acc, H4 D = some (.lst acc) ∧ acc.length < sizeLine ∧ Ny (upd H4 D (.lst (acc ++ [y]))) else Ny H3)
theorem tLc_eq : tLc wi g tt te vs = fun σ H Q => wi σ H fun J H1 => ∀ D, H1 D = none → LcW J g tt te vs D σ H1 Q := rfl
section
variable {Dd : Addr} {Q : VK}
theorem lcW_range {n : Nat} {lo : Int} (Pv : Nat → Hp → Prop) (h0 : Pv 0 (upd H Dd (.lst [])))
    (hs : ∀ i H, i < n → Pv i H → g (.int (lo + i)) (wipe σ vs) H fun σ2 H2 => wipe σ2 vs = wipe σ vs ∧ tt σ2 H2 fun b H3 =>
      if b = true then te σ2 H3 fun y H4 => ∃ acc, H4 Dd = some (.lst acc) ∧ acc.length < sizeLine ∧ Pv (i + 1) (upd H4 Dd (.lst (acc ++ [y]))) else Pv (i + 1) H3) (hd : ∀ H, Pv n H → Q (.ref Dd) H) : LcW (Itr lo n) g tt te vs Dd σ H Q := lc_range Pv h0 hs hd
theorem lcW_list {K : PySem.W.Frag} {a : Addr} {xs : List V} (Pv : Nat → Hp → Prop) (h0 : Pv 0 (upd H Dd (.lst []))) (hl : ∀ i H, i ≤ xs.length → Pv i H → SqL K H a xs)
    (hs : ∀ i x H, xs[i]? = some x → Pv i H → g x (wipe σ vs) H fun σ2 H2 => wipe σ2 vs = wipe σ vs ∧ tt σ2 H2 fun b H3 =>
      if b = true then te σ2 H3 fun y H4 => ∃ acc, H4 Dd = some (.lst acc) ∧ acc.length < sizeLine ∧ Pv (i + 1) (upd H4 Dd (.lst (acc ++ [y]))) else Pv (i + 1) H3) (hd : ∀ H, Pv xs.length H → Q (.ref Dd) H) : LcW (Itl K a) g tt te vs Dd σ H Q := lc_list Pv h0 hl hs hd
theorem lcW_tup {K : PySem.W.Frag} {a : Addr} {xs : List V} (Pv : Nat → Hp → Prop) (h0 : Pv 0 (upd H Dd (.lst []))) (hl : ∀ i H, i ≤ xs.length → Pv i H → SqT K H a xs)
    (hs : ∀ i x H, xs[i]? = some x → Pv i H → g x (wipe σ vs) H fun σ2 H2 => wipe σ2 vs = wipe σ vs ∧ tt σ2 H2 fun b H3 =>
      if b = true then te σ2 H3 fun y H4 => ∃ acc, H4 Dd = some (.lst acc) ∧ acc.length < sizeLine ∧ Pv (i + 1) (upd H4 Dd (.lst (acc ++ [y]))) else Pv (i + 1) H3) (hd : ∀ H, Pv xs.length H → Q (.ref Dd) H) : LcW (Itt K a) g tt te vs Dd σ H Q := lc_tup Pv h0 hl hs hd
end
end

/-! ### items of what is tracked -/
section
variable {X : Cx}
theorem ixL : IxR X (fun x y H Q => ∃ p xs i v, x = .ref p ∧ y = .int i ∧ H p = some (.lst xs) ∧ atI xs i = some v ∧ Q v H) := by
  intro value slice pins s σ H x y v u Q I rx ry h hs
  obtain ⟨p, xs, i, z, e1, e2, h1, h2, q⟩ := h
  exact ix_list value slice pins s σ H x y v u Q I rx ry ⟨p, xs, i, z, e1, e2, SqL.of h1, h2, q⟩ hs
theorem ixT : IxR X (fun x y H Q => ∃ p xs i v, x = .ref p ∧ y = .int i ∧ H p = some (.tup xs) ∧ atI xs i = some v ∧ Q v H) := by
  intro value slice pins s σ H x y v u Q I rx ry h hs
  obtain ⟨p, xs, i, z, e1, e2, h1, h2, q⟩ := h
  exact ix_tup value slice pins s σ H x y v u Q I rx ry ⟨p, xs, i, z, e1, e2, SqT.of h1, h2, q⟩ hs
end
/-- a, b, .. = a tracked tuple of n items -/
def gT (n : Nat) (t : TGs) : TG := fun v σ H Q => ∃ a xs, v = .ref a ∧ H a = some (.tup xs) ∧ xs.length = n ∧ t xs σ H Q
theorem pg_tupT {X : Cx} {es : List Expr} {k : Nat} {t : TGs} {pos : Pos} (n : Nat) (hc : X.calm = true) (h : PGs X es t) (hn : (assignEach es X.env).length = n := by rfl) (hst : (assignEach es X.env).findIdx? (·.1) = none := by rfl) : PG X (.Tuple es k pos) (gT n t) := by
  refine ⟨fun pins s σ H v u Q I r hw => ?_⟩
  obtain ⟨a, xs, e1, hq, hl, hw⟩ := hw
  exact (pg_tup hc h hn hst).run pins s σ H v u Q I r ⟨a, xs, e1, SqT.of hq, hl, hw⟩
/-- a, b, .. = a tracked list of n items -/
def gL (n : Nat) (t : TGs) : TG := fun v σ H Q => ∃ a xs, v = .ref a ∧ H a = some (.lst xs) ∧ xs.length = n ∧ t xs σ H Q
theorem pg_lstT {X : Cx} {es : List Expr} {k : Nat} {t : TGs} {pos : Pos} (n : Nat) (hc : X.calm = true) (h : PGs X es t) (hn : (assignEach es X.env).length = n := by rfl) (hst : (assignEach es X.env).findIdx? (·.1) = none := by rfl) : PG X (.Tuple es k pos) (gL n t) := by
  refine ⟨fun pins s σ H v u Q I r hw => ?_⟩
  obtain ⟨a, xs, e1, hq, hl, hw⟩ := hw
  exact (pg_lst hc h hn hst).run pins s σ H v u Q I r ⟨a, xs, e1, SqL.of hq, hl, hw⟩
theorem lenL {X : Cx} : CallR X (.builtin "len") (fun xs H Q => ∃ p ys, xs = [.ref p] ∧ H p = some (.lst ys) ∧ Q (.int ys.length) H) := by
  intro pins s σ H xs us Q I r h
  obtain ⟨p, ys, e, h1, q⟩ := h
  exact call_len_seq pins s σ H xs us Q I r ⟨p, ys, e, .inl (SqL.of h1), q⟩
theorem lenT {X : Cx} : CallR X (.builtin "len") (fun xs H Q => ∃ p ys, xs = [.ref p] ∧ H p = some (.tup ys) ∧ Q (.int ys.length) H) := by
  intro pins s σ H xs us Q I r h
  obtain ⟨p, ys, e, h1, q⟩ := h
  exact call_len_seq pins s σ H xs us Q I r ⟨p, ys, e, .inr (SqT.of h1), q⟩
theorem cxK {CX : CXT} {P : Program} {w : World} {K : PySem.W.Frag} {mg : Str → Option Value} {base : Heap} {N : List Str} {qual : Str} {sc : Scope} {f : Addr} {cd : Value} {A : Around} {outer : List Env} {s : Shared} {H : Hp} {E : XK} : (cxOf CX P w K mg base N qual sc f cd A outer s H E).K = K := rfl
theorem atI_0 {α : Type} {x : α} {l : List α} : atI (x :: l) 0 = some x := atI_nat (j := 0) rfl
theorem atI_1 {α : Type} {x y : α} {l : List α} : atI (x :: y :: l) 1 = some y := atI_nat (j := 1) rfl
theorem atI_2 {α : Type} {x y z : α} {l : List α} : atI (x :: y :: z :: l) 2 = some z := atI_nat (j := 2) rfl
theorem atI_3 {α : Type} {x y z u : α} {l : List α} : atI (x :: y :: z :: u :: l) 3 = some u := atI_nat (j := 3) rfl
theorem ixN_30 : ixN 3 0 = some 0 := by decide
theorem ixN_31 : ixN 3 1 = some 1 := by decide
theorem ixN_32 : ixN 3 2 = some 2 := by decide

/-! ### sizes -/
theorem cmw {i j : Int} (h1 : -(2 ^ 2500) < i) (h2 : i < 2 ^ 2500) (h3 : -(2 ^ 2500) < j) (h4 : j < 2 ^ 2500) : IntMulOk i j :=
  CMulW.ok (wide_mul (a := 2500) (b := 2500) (by omega) (by omega) (by decide) (by decide) (by decide))
theorem cmr {i j : Int} (h1 : -(2 ^ 64) < j) (h2 : j < 2 ^ 64) : IntMulOk i j := CMul.ok (.inr ⟨h1, h2⟩)
theorem cml {i j : Int} (h1 : -(2 ^ 64) < i) (h2 : i < 2 ^ 64) : IntMulOk i j := CMul.ok (.inl ⟨h1, h2⟩)
theorem cpow {i : Int} {j : Int} (h0 : 0 ≤ j) (h1 : j ≤ 1000) (h2 : -(2 ^ 2500) < i) (h3 : i < 2 ^ 2500) : PowOk i j := by
  have h := PyProof.Rows.intBits_le (show i.natAbs < 2 ^ 2500 by omega)
  refine ⟨h0, ?_⟩
  have h4 : (Builtin.Int.intBits i : Int) ≤ 2500 := by omega
  have h5 := Int.mul_le_mul h4 h1 h0 (by decide)
  exact Int.le_trans h5 (by decide)
theorem cdiv {j : Int} (h0 : j ≠ 0) (h1 : -(2 ^ 2500) < j) (h2 : j < 2 ^ 2500) : DivOk j :=
  ⟨h0, Nat.lt_of_lt_of_le (PySem.Flt.log2_lt_of (by decide) (show j.natAbs < 2 ^ 2500 by omega)) (by decide)⟩

theorem cut1 (xs : List V) : cutV xs none (some 1) = xs.take 1 := by
  unfold cutV
  cases xs with
  | nil => rfl
  | cons x l =>
    have e : HT.sIx (x :: l).length (x :: l).length (some 1) = 1 := by simp [HT.sIx]
    have e2 : HT.sIx (x :: l).length 0 (Option.none) = 0 := rfl
    rw [e, e2]
    rfl
/-! ### the draws -/
def Keep (g : Addr) (H H' : Hp) : Prop := ∀ b o, b ≠ g → H b = some o → H' b = some o
theorem Keep.refl (g : Addr) (H : Hp) : Keep g H H := fun _ _ _ h => h
theorem Keep.trans {g : Addr} {H H1 H2 : Hp} (a : Keep g H H1) (b : Keep g H1 H2) : Keep g H H2 := fun c o n h => b c o n (a c o n h)
theorem Keep.of {g : Addr} {H H' : Hp} (a : Same H H') : Keep g H H' := fun c o _ h => a c o h
theorem Same.upd {H : Hp} {a : Addr} {o : HO} (h : H a = none) : Same H (upd H a o) := fun b u e => by
  rw [upd_ne (ne_of_none e h)]
  exact e
theorem Same.upd2 {H H1 : Hp} {a : Addr} {o : HO} (s : Same H H1) (h : H a = none) : Same H (L2.upd H1 a o) := fun b u e => by
  rw [upd_ne (ne_of_none e h)]
  exact s b u e
def GenAt (H : Hp) (g : Addr) (k : Nat) : Prop := ∃ a b c : Int, H g = some (.lst [.int a, .int b, .int c]) ∧ 0 ≤ a ∧ a < 2 ^ 2000 ∧ 0 ≤ b ∧ b < 2 ^ 32 ∧ 0 ≤ c ∧ c ≤ k
theorem GenAt.mono {H : Hp} {g : Addr} {j k : Nat} (h : GenAt H g j) (l : j ≤ k) : GenAt H g k := by
  obtain ⟨a, b, c, e, h1, h2, h3, h4, h5, h6⟩ := h
  exact ⟨a, b, c, e, h1, h2, h3, h4, h5, by omega⟩
theorem GenAt.same {H H' : Hp} {g : Addr} {k : Nat} (h : GenAt H g k) (s : Same H H') : GenAt H' g k := by
  obtain ⟨a, b, c, e, r⟩ := h
  exact ⟨a, b, c, s _ _ e, r⟩
def spHash : Sp := fun vs H Q _ => ∃ a i : Int, vs = [.int a, .int i] ∧ 0 ≤ a ∧ a < 2 ^ 32 ∧ 0 ≤ i ∧ i < 2 ^ 60 ∧ ∀ h : Int, 0 ≤ h → h < 2147483647 → Q (.int h) H
def spRandom : Sp := fun vs H Q _ => ∃ (g : Addr) (n : Int) (k : Nat), vs = [.ref g, .int n] ∧ GenAt H g k ∧ k ≤ 2 ^ 40 ∧ 1 ≤ n ∧ n < 2 ^ 300 ∧ ∀ (r : Int) (H' : Hp), 0 ≤ r → r < n → GenAt H' g (k + 20) → Keep g H H' → Q (.int r) H'
def spCell (K : PySem.W.Frag) : Sp := fun vs H Q _ => ∃ (a : Addr) (ns : List Int) (i : Int), vs = [.ref a, .int i] ∧ SqL K H a (ns.map V.int) ∧ 0 ≤ i ∧ i < 100 ∧ ∀ (r : Int) (H' : Hp), Same H H' → Q (.int r) H'
def spGen (K : PySem.W.Frag) : Sp := fun vs H Q _ => ∃ (a : Addr) (ns : List Int) (i : Int), vs = [.ref a, .int i] ∧ SqL K H a (ns.map V.int) ∧ 0 ≤ i ∧ i < 100 ∧ ∀ (g : Addr) (H' : Hp), H g = none → Same H H' → GenAt H' g 100000 → Q (.ref g) H'
/-- a def of two ints that hands back an int reckoned by F -/
def gcdI (a b : Int) : Int := ((Nat.gcd a.natAbs b.natAbs : Nat) : Int)
def spCommon : Sp := fun vs H Q _ => ∃ a b : Int, vs = [.int a, .int b] ∧ Q (.int (gcdI a b)) H
def spRoot : Sp := fun vs H Q _ => ∃ n : Int, vs = [.int n] ∧ 0 ≤ n ∧ n < 2 ^ 2000 ∧ ∀ H', Same H H' → Q (.int (rt n)) H'

/-- the number in a slot, for a measure -/
def slotN (σ : SV) (i : Nat) : Nat := match σ[i]? with
  | some (some (.int v)) => v.toNat
  | _ => 0
theorem gcdI_step {x y : Int} (hx : 0 ≤ x) (hy : 0 < y) : gcdI y (x % y) = gcdI x y := by
  unfold gcdI
  have e : (x % y).natAbs = x.natAbs % y.natAbs := by
    have h1 := Int.emod_nonneg x (show y ≠ 0 by omega)
    have h2 : ((x.natAbs % y.natAbs : Nat) : Int) = x % y := by
      rw [Int.natCast_emod, Int.natAbs_of_nonneg hx, Int.natAbs_of_nonneg (by omega)]
    omega
  rw [e, Nat.gcd_comm, ← Nat.gcd_rec, Nat.gcd_comm]
theorem gcdI_zero {x : Int} (hx : 0 ≤ x) : gcdI x 0 = x := by
  unfold gcdI
  rw [show (0 : Int).natAbs = 0 from rfl, Nat.gcd_zero_right]
  omega
theorem gcdI_abs (a b : Int) : gcdI (if a < 0 then -a else a) (if b < 0 then -b else b) = gcdI a b := by
  unfold gcdI
  have h : ∀ z : Int, (if z < 0 then -z else z).natAbs = z.natAbs := fun z => by split <;> omega
  rw [h, h]
theorem rt_spec {n : Int} (h : 0 ≤ n) : 0 ≤ rt n ∧ rt n * rt n ≤ n ∧ n < (rt n + 1) * (rt n + 1) := by
  obtain ⟨m, rfl⟩ := Int.eq_ofNat_of_zero_le h
  have q := PySem.Float64.isqrt_spec m
  unfold rt
  rw [Int.toNat_natCast]
  refine ⟨Int.natCast_nonneg _, ?_, ?_⟩
  · exact_mod_cast q.1
  · exact_mod_cast q.2
theorem sq_mono {x y : Int} (h : 0 ≤ x) (h2 : x ≤ y) : x * x ≤ y * y := Int.mul_le_mul h2 h2 h (by omega)
theorem rt_unique {n r : Int} (h : 0 ≤ n) (h0 : 0 ≤ r) (h1 : r * r ≤ n) (h2 : n < (r + 1) * (r + 1)) : r = rt n := by
  obtain ⟨s0, s1, s2⟩ := rt_spec h
  have a : ¬ r + 1 ≤ rt n := fun z => by
    have q := sq_mono (by omega) z
    omega
  have b : ¬ rt n + 1 ≤ r := fun z => by
    have q := sq_mono (by omega) z
    omega
  omega
theorem lg {n : Int} (h : n < 2 ^ 3900) : n.toNat.log2 < 13000 := by
  by_cases h0 : n.toNat = 0
  · rw [h0]; decide
  · have h2 : n.toNat < 2 ^ 3900 := by omega
    have := (Nat.log2_lt h0).mpr h2
    omega
theorem rGcd_eq : rGcd = fun vs H Q => ∃ a b : Int, vs = [.int a, .int b] ∧ Q (.int (gcdI a b)) H := rfl
theorem scal_ii {a b : Int} : scal (.int a) (.int b) = true := rfl
theorem scal_bb {a b : Bool} : scal (.bl a) (.bl b) = true := rfl
theorem scal_ss {a b : Str} : scal (.str a) (.str b) = true := rfl
end Kx

set_option Elab.async false
set_option linter.all false
set_option maxRecDepth 100000
set_option maxHeartbeats 4000000
set_option exponentiation.threshold 4000
/-! Root numbers as plain functions. -/
namespace Kx
open PySem

def Sq (D : Int) : Prop := rt D * rt D = D
instance (D : Int) : Decidable (Sq D) := by unfold Sq; infer_instance
def sgn (x : Int) : Int := if x = 0 then 0 else if 0 < x then 1 else -1
def sideF (D x y : Int) : Int :=
  if x = 0 ∧ y = 0 then 0 else if 0 ≤ x ∧ 0 ≤ y then 1 else if x ≤ 0 ∧ y ≤ 0 then -1 else
  if x * x - D * y * y = 0 then 0 else if (decide (0 < x * x - D * y * y) = decide (0 < x)) then 1 else -1
def sideP (D x y : Int) : Int := if D * y * y < x * x then sgn x else sgn y
theorem sq_of {D x y : Int} (hD : 0 ≤ D) (hy : y ≠ 0) (h : x * x = D * y * y) : Sq D := by
  have hyn : 0 < y.natAbs := Int.natAbs_pos.mpr hy
  obtain ⟨m, rfl⟩ := Int.eq_ofNat_of_zero_le hD
  have hn : x.natAbs * x.natAbs = m * (y.natAbs * y.natAbs) := by
    have e := congrArg Int.natAbs h
    rw [Int.natAbs_mul, Int.natAbs_mul, Int.natAbs_mul, Int.natAbs_natCast, Nat.mul_assoc] at e
    exact e
  have hd : y.natAbs ∣ x.natAbs := by
    have h1 : y.natAbs ^ 2 ∣ x.natAbs ^ 2 := ⟨m, by rw [Nat.pow_two, Nat.pow_two, hn]; exact Nat.mul_comm _ _⟩
    exact (Nat.pow_dvd_pow_iff (by decide)).mp h1
  obtain ⟨k, hk⟩ := hd
  have hm : k * k = m := by
    rw [hk] at hn
    have e : y.natAbs * y.natAbs * (k * k) = y.natAbs * y.natAbs * m := by
      rw [Nat.mul_comm (y.natAbs * y.natAbs) m, ← hn]
      simp only [Nat.mul_assoc, Nat.mul_left_comm]
    exact Nat.eq_of_mul_eq_mul_left (Nat.mul_pos hyn hyn) e
  have e : ((k : Nat) : Int) = rt (m : Int) := by
    refine rt_unique (Int.natCast_nonneg _) (Int.natCast_nonneg _) ?_ ?_
    · rw [← hm]
      exact Int.le_of_eq (Int.natCast_mul k k).symm
    · rw [← hm]
      have : (((k * k : Nat)) : Int) = (k : Int) * (k : Int) := Int.natCast_mul k k
      rw [this]
      have h2 : ((k : Int) + 1) * ((k : Int) + 1) = (k : Int) * k + 2 * k + 1 := by grind
      omega
  unfold Sq
  rw [← e, ← hm]
  exact (Int.natCast_mul k k).symm
theorem dyy_nn {D y : Int} (hD : 0 ≤ D) : 0 ≤ D * y * y := by
  rw [Int.mul_assoc]
  exact Int.mul_nonneg hD (by
    rcases Int.le_total 0 y with h | h
    · exact Int.mul_nonneg h h
    · exact Int.mul_nonneg_of_nonpos_of_nonpos h h)
theorem dyy_pos {D y : Int} (hD : 0 < D) (hy : y ≠ 0) : 0 < D * y * y := by
  have h1 : 0 < y * y := by
    rcases Int.lt_or_gt_of_ne hy with h | h
    · exact Int.mul_pos_of_neg_of_neg h h
    · exact Int.mul_pos h h
  rw [Int.mul_assoc]
  exact Int.mul_pos hD h1
theorem xx_pos {x : Int} (hx : x ≠ 0) : 0 < x * x := by
  rcases Int.lt_or_gt_of_ne hx with h | h
  · exact Int.mul_pos_of_neg_of_neg h h
  · exact Int.mul_pos h h
theorem side_eq {D x y : Int} (hD : 0 < D) (h : y = 0 ∨ ¬ Sq D) : sideP D x y = sideF D x y := by
  have hne : y ≠ 0 → x * x ≠ D * y * y := fun hy e => by
    rcases h with h | h
    · exact hy h
    · exact h (sq_of (by omega) hy e)
  have f1 : x = 0 → x * x = 0 := fun e => by rw [e]; rfl
  have f2 : x ≠ 0 → 0 < x * x := xx_pos
  have f3 : y = 0 → D * y * y = 0 := fun e => by rw [e, Int.mul_zero]
  have f4 : y ≠ 0 → 0 < D * y * y := dyy_pos hD
  unfold sideP sideF sgn
  simp only [decide_eq_decide]
  generalize x * x = u at *
  generalize D * y * y = v at *
  repeat' split
  all_goals omega
/-- the floor of y times the root -/
def flM (D y : Int) : Int := if 0 ≤ y then rt (D * y * y) else -rt (D * y * y - 1) - 1
theorem floor_low {D y z : Int} (hD : 0 < D) (h : -flM D y ≤ z) : 0 ≤ sideF D z y := by
  unfold flM at h
  unfold sideF
  by_cases hy : 0 ≤ y
  · rw [if_pos hy] at h
    obtain ⟨s0, s1, s2⟩ := rt_spec (dyy_nn (y := y) (Int.le_of_lt hD))
    by_cases hz : 0 ≤ z
    · by_cases h0 : z = 0 ∧ y = 0
      · rw [if_pos h0]; decide
      · rw [if_neg h0, if_pos ⟨hz, hy⟩]; decide
    · have h1 : z * z ≤ D * y * y := by
        have := sq_mono (x := -z) (y := rt (D * y * y)) (by omega) (by omega)
        have e : -z * -z = z * z := by grind
        omega
      have hy0 : y ≠ 0 := fun e => by
        subst e
        have h2 : 0 < z * z := xx_pos (by omega)
        rw [Int.mul_zero] at h1
        omega
      rw [if_neg (by omega), if_neg (by omega), if_neg (by omega)]
      by_cases h4 : z * z - D * y * y = 0
      · rw [if_pos h4]; decide
      · rw [if_neg h4, if_pos (by rw [decide_eq_false (by omega), decide_eq_false (by omega)])]; decide
  · rw [if_neg hy] at h
    have hp := dyy_pos hD (show y ≠ 0 by omega)
    obtain ⟨s0, s1, s2⟩ := rt_spec (show 0 ≤ D * y * y - 1 by omega)
    have hz : 0 < z := by omega
    have h1 : D * y * y ≤ z * z := by
      have := sq_mono (x := rt (D * y * y - 1) + 1) (y := z) (by omega) (by omega)
      omega
    rw [if_neg (by omega), if_neg (by omega), if_neg (by omega)]
    by_cases h4 : z * z - D * y * y = 0
    · rw [if_pos h4]; decide
    · rw [if_neg h4, if_pos (by rw [decide_eq_true (by omega), decide_eq_true hz])]; decide
theorem floor_high {D y z : Int} (hD : 0 < D) (h : z ≤ -1 - flM D y) : sideF D z y < 0 := by
  unfold flM at h
  unfold sideF
  by_cases hy : 0 ≤ y
  · rw [if_pos hy] at h
    obtain ⟨s0, s1, s2⟩ := rt_spec (dyy_nn (y := y) (Int.le_of_lt hD))
    by_cases hy0 : y = 0
    · rw [if_neg (by omega), if_neg (by omega), if_pos (by omega)]; decide
    · have h1 : D * y * y < z * z := by
        have := sq_mono (x := rt (D * y * y) + 1) (y := -z) (by omega) (by omega)
        have e : -z * -z = z * z := by grind
        omega
      rw [if_neg (by omega), if_neg (by omega), if_neg (by omega), if_neg (by omega), if_neg (by rw [decide_eq_true (show 0 < z * z - D * y * y by omega), decide_eq_false (by omega)]; decide)]
      decide
  · rw [if_neg hy] at h
    have hp := dyy_pos hD (show y ≠ 0 by omega)
    obtain ⟨s0, s1, s2⟩ := rt_spec (show 0 ≤ D * y * y - 1 by omega)
    by_cases hz : z ≤ 0
    · rw [if_neg (by omega), if_neg (by omega), if_pos (by omega)]; decide
    · have h1 : z * z < D * y * y := by
        have := sq_mono (x := z) (y := rt (D * y * y - 1)) (by omega) (by omega)
        omega
      rw [if_neg (by omega), if_neg (by omega), if_neg (by omega), if_neg (by omega), if_neg (by rw [decide_eq_false (show ¬ 0 < z * z - D * y * y by omega), decide_eq_true (by omega)]; decide)]
      decide
/-! ### least terms -/
def lsg (x y b : Int) : Int := if b < 0 then 0 - gcdI (gcdI x y) b else gcdI (gcdI x y) b
def red (x y b : Int) : Int × Int × Int := (x.fdiv (lsg x y b), y.fdiv (lsg x y b), b.fdiv (lsg x y b))
def least (D x y b : Int) : Int × Int × Int := if rt D * rt D = D then red (x + y * rt D) 0 b else red x y b
theorem gcdI_nn (a b : Int) : 0 ≤ gcdI a b := Int.natCast_nonneg _
theorem gcdI_dvdl (a b : Int) : gcdI a b ∣ a := Int.gcd_dvd_left a b
theorem gcdI_dvdr (a b : Int) : gcdI a b ∣ b := Int.gcd_dvd_right a b
theorem gcdI_pos {a b : Int} (h : b ≠ 0) : 0 < gcdI a b := by
  unfold gcdI
  have := Nat.gcd_pos_of_pos_right a.natAbs (Int.natAbs_pos.mpr h)
  omega
theorem gcdI_le {a b : Int} (h : b ≠ 0) : gcdI a b ≤ b.natAbs := by
  unfold gcdI
  have := Nat.gcd_le_right a.natAbs (Int.natAbs_pos.mpr h)
  omega
theorem gcdI_mul (k a b : Int) : gcdI (k * a) (k * b) = k.natAbs * gcdI a b := by
  have h := Int.gcd_mul_left k a b
  unfold gcdI
  have h2 : ((k * a).natAbs.gcd (k * b).natAbs) = k.natAbs * (a.natAbs.gcd b.natAbs) := h
  rw [h2, Int.natCast_mul]
theorem lsg_ne {x y b : Int} (h : b ≠ 0) : lsg x y b ≠ 0 := by
  have := gcdI_pos (a := gcdI x y) h
  unfold lsg
  split <;> omega
theorem lsg_size {x y b : Int} (h : b ≠ 0) : (lsg x y b).natAbs ≤ b.natAbs := by
  have h1 := gcdI_le (a := gcdI x y) h
  have h2 := gcdI_nn (gcdI x y) b
  unfold lsg
  split <;> omega
theorem lsg_abs {x y b : Int} : ((lsg x y b).natAbs : Int) = gcdI (gcdI x y) b := by
  have h2 := gcdI_nn (gcdI x y) b
  unfold lsg
  split <;> omega
/-- the three numbers as multiples -/
theorem red_mul {x y b : Int} (h : b ≠ 0) : x = lsg x y b * (red x y b).1 ∧ y = lsg x y b * (red x y b).2.1 ∧ b = lsg x y b * (red x y b).2.2 := by
  have hs := lsg_ne (x := x) (y := y) h
  have hd : ∀ z : Int, gcdI (gcdI x y) b ∣ z → z = lsg x y b * (z.fdiv (lsg x y b)) := fun z hz => by
    have h1 : lsg x y b ∣ z := by
      unfold lsg
      split
      · rw [Int.zero_sub]; exact Int.neg_dvd.mpr hz
      · exact hz
    obtain ⟨q, e⟩ := h1
    have e2 : z.fdiv (lsg x y b) = q := by
      have := Int.mul_fdiv_cancel_left (a := lsg x y b) q hs
      rw [← e] at this
      exact this
    rw [e2]; exact e
  exact ⟨hd x (Int.dvd_trans (gcdI_dvdl _ _) (gcdI_dvdl _ _)), hd y (Int.dvd_trans (gcdI_dvdl _ _) (gcdI_dvdr _ _)), hd b (gcdI_dvdr _ _)⟩
theorem gcd3_mul (k a b c : Int) : gcdI (gcdI (k * a) (k * b)) (k * c) = k.natAbs * gcdI (gcdI a b) c := by
  rw [gcdI_mul]
  have : gcdI ((k.natAbs : Int) * gcdI a b) (k * c) = gcdI (k * gcdI a b) (k * c) := by
    unfold gcdI
    rw [Int.natAbs_mul, Int.natAbs_mul k, Int.natAbs_natCast, Int.natAbs_mul k]
  rw [this, gcdI_mul]
theorem red_gcd {x y b : Int} (h : b ≠ 0) : gcdI (gcdI (red x y b).1 (red x y b).2.1) (red x y b).2.2 = 1 := by
  obtain ⟨e1, e2, e3⟩ := red_mul (x := x) (y := y) h
  have hp := gcdI_pos (a := gcdI x y) h
  have hg : gcdI (gcdI x y) b = (lsg x y b).natAbs * gcdI (gcdI (red x y b).1 (red x y b).2.1) (red x y b).2.2 := by
    rw [← gcd3_mul, ← e1, ← e2, ← e3]
  rw [lsg_abs] at hg
  have h2 : gcdI (gcdI x y) b * 1 = gcdI (gcdI x y) b * gcdI (gcdI (red x y b).1 (red x y b).2.1) (red x y b).2.2 := by
    rw [Int.mul_one]; exact hg
  exact (Int.eq_of_mul_eq_mul_left (by omega) h2).symm
theorem red_below {x y b : Int} (h : b ≠ 0) : 1 ≤ (red x y b).2.2 := by
  obtain ⟨_, _, e3⟩ := red_mul (x := x) (y := y) h
  have hs := lsg_ne (x := x) (y := y) h
  have hp := gcdI_pos (a := gcdI x y) h
  generalize (red x y b).2.2 = q at *
  by_cases hb : b < 0
  · have hl : lsg x y b < 0 := by unfold lsg; rw [if_pos hb]; omega
    by_cases hq : 1 ≤ q
    · exact hq
    · have := Int.mul_nonneg_of_nonpos_of_nonpos (Int.le_of_lt hl) (show q ≤ 0 by omega)
      omega
  · have hl : 0 < lsg x y b := by unfold lsg; rw [if_neg hb]; omega
    by_cases hq : 1 ≤ q
    · exact hq
    · have := Int.mul_nonpos_of_nonneg_of_nonpos (Int.le_of_lt hl) (show q ≤ 0 by omega)
      omega
theorem fdiv_size {z s q : Int} (hs : s ≠ 0) (e : z = s * q) : q.natAbs ≤ z.natAbs := by
  rw [e, Int.natAbs_mul]
  exact Nat.le_mul_of_pos_left _ (Int.natAbs_pos.mpr hs)
theorem red_size {x y b : Int} (h : b ≠ 0) : (red x y b).1.natAbs ≤ x.natAbs ∧ (red x y b).2.1.natAbs ≤ y.natAbs ∧ (red x y b).2.2.natAbs ≤ b.natAbs := by
  obtain ⟨e1, e2, e3⟩ := red_mul (x := x) (y := y) h
  have hs := lsg_ne (x := x) (y := y) h
  exact ⟨fdiv_size hs e1, fdiv_size hs e2, fdiv_size hs e3⟩
/-- what a triple needs to be the one: unique -/
theorem red_unique {x y b X Y B s : Int} (hs : s ≠ 0) (hB : 1 ≤ B) (hg : gcdI (gcdI X Y) B = 1) (e1 : x = s * X) (e2 : y = s * Y) (e3 : b = s * B) : red x y b = (X, Y, B) := by
  have hl : lsg x y b = s := by
    have hgc : gcdI (gcdI x y) b = s.natAbs := by rw [e1, e2, e3, gcd3_mul, hg, Int.mul_one]
    unfold lsg
    rw [hgc]
    by_cases h : s < 0
    · have : b < 0 := by rw [e3]; exact Int.mul_neg_of_neg_of_pos h (by omega)
      rw [if_pos this]; omega
    · have : ¬ b < 0 := by
        have := Int.mul_nonneg (show 0 ≤ s by omega) (show 0 ≤ B by omega)
        rw [e3]; omega
      rw [if_neg this]; omega
  unfold red
  rw [hl, e1, e2, e3, Int.mul_fdiv_cancel_left _ hs, Int.mul_fdiv_cancel_left _ hs, Int.mul_fdiv_cancel_left _ hs]
theorem red_scale {x y b k : Int} (hk : k ≠ 0) (hb : b ≠ 0) : red (k * x) (k * y) (k * b) = red x y b := by
  obtain ⟨e1, e2, e3⟩ := red_mul (x := x) (y := y) hb
  refine red_unique (s := k * lsg x y b) (Int.mul_ne_zero hk (lsg_ne hb)) (red_below hb) (red_gcd hb) ?_ ?_ ?_
  · rw [Int.mul_assoc]; exact congrArg (k * ·) e1
  · rw [Int.mul_assoc]; exact congrArg (k * ·) e2
  · rw [Int.mul_assoc]; exact congrArg (k * ·) e3
theorem least_scale {D x y b k : Int} (hk : k ≠ 0) (hb : b ≠ 0) : least D (k * x) (k * y) (k * b) = least D x y b := by
  unfold least
  split
  · rw [show k * x + k * y * rt D = k * (x + y * rt D) by grind]
    have := red_scale (x := x + y * rt D) (y := 0) hk hb
    rwa [Int.mul_zero] at this
  · exact red_scale hk hb
/-- a triple in least terms -/
def Good (D : Int) (t : Int × Int × Int) : Prop := 1 ≤ t.2.2 ∧ gcdI (gcdI t.1 t.2.1) t.2.2 = 1 ∧ (t.2.1 = 0 ∨ ¬ Sq D)
theorem least_good {D x y b : Int} (hb : b ≠ 0) : Good D (least D x y b) := by
  unfold least
  by_cases h : rt D * rt D = D
  · rw [if_pos h]
    refine ⟨red_below hb, red_gcd hb, .inl ?_⟩
    unfold red
    exact Int.zero_fdiv (lsg (x + y * rt D) 0 b)
  · rw [if_neg h]
    exact ⟨red_below hb, red_gcd hb, .inr h⟩
theorem red_self {X Y B : Int} (hB : 1 ≤ B) (hg : gcdI (gcdI X Y) B = 1) : red X Y B = (X, Y, B) :=
  red_unique (s := 1) (by decide) hB hg (Int.one_mul _).symm (Int.one_mul _).symm (Int.one_mul _).symm
theorem least_self {D : Int} {t : Int × Int × Int} (h : Good D t) : least D t.1 t.2.1 t.2.2 = t := by
  obtain ⟨h1, h2, h3⟩ := h
  unfold least
  split
  · rename_i hs
    rcases h3 with h3 | h3
    · rw [h3] at h2 ⊢
      rw [Int.zero_mul, Int.add_zero, red_self h1 h2]
      exact Prod.ext rfl (Prod.ext h3.symm rfl)
    · exact absurd hs h3
  · rw [red_self h1 h2]
end Kx
namespace Kx
open PySem PySem.Spec PyProof.Rows L2
/-! ### kinds of values -/
def tyS (H : Hp) : V → Option String
  | .non => some "NoneType"
  | .bl _ => some "bool"
  | .int _ => some "int"
  | .str _ => some "str"
  | .ref a => match H a with
    | some (.lst _) => some "list"
    | some (.tup _) => some "tuple"
    | some (.dK _) => some "dict"
    | _ => none
  | _ => none
def isIntV : V → Bool
  | .int _ => true
  | _ => false
theorem tyS_of {K : PySem.W.Frag} {H : Hp} {x : V} {t : String} (h : tyS H x = some t) : TyX K H x (.type t) ∧ t ∈ ["NoneType", "bool", "int", "str", "list", "tuple", "dict"] ∧ (isIntV x = (t == "int")) := by
  cases x with
  | non => cases h; exact ⟨.base .non, by decide, (show false = ("NoneType" == "int") by decide)⟩
  | bl b => cases h; exact ⟨.base (.bl b), by decide, (show false = ("bool" == "int") by decide)⟩
  | int i => cases h; exact ⟨.base (.int i), by decide, (show true = ("int" == "int") by decide)⟩
  | str z => cases h; exact ⟨.base (.str z), by decide, (show false = ("str" == "int") by decide)⟩
  | byt _ => cases h
  | flt _ => cases h
  | ty _ => cases h
  | ref a =>
    have h2 : (match H a with | some (.lst _) => some "list" | some (.tup _) => some "tuple" | some (.dK _) => some "dict" | _ => none) = some t := h
    cases e : H a with
    | none => rw [e] at h2; cases h2
    | some o =>
      rw [e] at h2
      cases o with
      | lst xs => cases h2; exact ⟨.base (.lst e), by decide, (show false = ("list" == "int") by decide)⟩
      | tup xs => cases h2; exact ⟨.base (.tup e), by decide, (show false = ("tuple" == "int") by decide)⟩
      | dK kvs => cases h2; exact ⟨.base (.dK e), by decide, (show false = ("dict" == "int") by decide)⟩
      | _ => cases h2
theorem tyS_same {H H' : Hp} {x : V} {t : String} (s : Same H H') (h : tyS H x = some t) : tyS H' x = some t := by
  cases x with
  | ref a =>
    have h2 : (match H a with | some (.lst _) => some "list" | some (.tup _) => some "tuple" | some (.dK _) => some "dict" | _ => none) = some t := h
    show (match H' a with | some (.lst _) => some "list" | some (.tup _) => some "tuple" | some (.dK _) => some "dict" | _ => none) = some t
    cases e : H a with
    | none => rw [e] at h2; cases h2
    | some o => rw [s a o e]; rw [e] at h2; exact h2
  | _ => exact h
def OkItem (H : Hp) (x : V) : Prop := ∃ t, tyS H x = some t
theorem OkItem.same {H H' : Hp} {x : V} (h : OkItem H x) (s : Same H H') : OkItem H' x := let ⟨t, e⟩ := h; ⟨t, tyS_same s e⟩
/-- a value that the judging defs may be asked for -/
def OkV (H : Hp) (x : V) : Prop := OkItem H x ∧ ∀ a xs, x = .ref a → H a = some (.tup xs) → ∀ y ∈ xs, OkItem H y
def wholesB (H : Hp) (m : Int) : V → Bool
  | .ref a => match H a with
    | some (.tup xs) => decide ((xs.length : Int) = m) && xs.all isIntV
    | _ => false
  | _ => false
def spWhole : Sp := fun vs H Q _ => ∃ x, vs = [x] ∧ OkItem H x ∧ Q (.bl (isIntV x)) H
def spWholes : Sp := fun vs H Q _ => ∃ (x : V) (m : Int), vs = [x, .int m] ∧ m ≤ 1000 ∧ OkV H x ∧ ∀ H', Same H H' → Q (.bl (wholesB H m x)) H'
def measB : V → Bool
  | .int i => decide (5 ≤ i) && decide (i % 4 < 2)
  | _ => false
def spIsMeasure : Sp := fun vs H Q _ => ∃ x, vs = [x] ∧ OkItem H x ∧ Q (.bl (measB x)) H
def Meas (D : Int) : Prop := 5 ≤ D ∧ D % 4 < 2
/-- where the measure is one -/
def spCheckMeasure0 : Sp := fun vs H Q _ => ∃ D : Int, vs = [.int D] ∧ Meas D ∧ Q .non H
def spHasRoot : Sp := fun vs H Q _ => ∃ D : Int, vs = [.int D] ∧ 0 ≤ D ∧ D < 2 ^ 2000 ∧ Q (.bl (decide (Sq D))) H
def rootB (D : Int) (H : Hp) (x : V) : Bool := wholesB H 3 x && (match x with
  | .ref a => match H a with
    | some (.tup [.int x, .int y, .int b]) => decide (1 ≤ b) && (decide (gcdI (gcdI x y) b ≤ 1) && (decide (y = 0) || !decide (Sq D)))
    | _ => false
  | _ => false)
def spIsRootOf : Sp := fun vs H Q _ => ∃ (D : Int) (x : V), vs = [.int D, x] ∧ 0 ≤ D ∧ D < 2 ^ 2000 ∧ OkV H x ∧ ∀ H', Same H H' → Q (.bl (rootB D H x)) H'
def rootV (t : Int × Int × Int) : List V := [.int t.1, .int t.2.1, .int t.2.2]
/-- a root number stands at a -/
def RootAt (D : Int) (H : Hp) (a : Addr) (t : Int × Int × Int) : Prop := H a = some (.tup (rootV t)) ∧ Good D t
theorem RootAt.same {D : Int} {H H' : Hp} {a : Addr} {t : Int × Int × Int} (h : RootAt D H a t) (s : Same H H') : RootAt D H' a t := ⟨s _ _ h.1, h.2⟩
theorem RootAt.okV {D : Int} {H : Hp} {a : Addr} {t : Int × Int × Int} (h : RootAt D H a t) : OkV H (.ref a) := by
  refine ⟨⟨"tuple", ?_⟩, fun b xs e1 e2 y hy => ?_⟩
  · show (match H a with | some (.lst _) => some "list" | some (.tup _) => some "tuple" | some (.dK _) => some "dict" | _ => none) = some "tuple"
    rw [h.1]
  · cases e1
    rw [h.1] at e2
    cases e2
    simp only [rootV, List.mem_cons, List.not_mem_nil, or_false] at hy
    rcases hy with rfl | rfl | rfl <;> exact ⟨"int", rfl⟩
theorem RootAt.isRoot {D : Int} {H : Hp} {a : Addr} {t : Int × Int × Int} (h : RootAt D H a t) : rootB D H (.ref a) = true := by
  obtain ⟨h1, h2, h3, h4⟩ := h
  unfold rootB wholesB
  simp only [h1, rootV, List.length_cons, List.length_nil, List.all_cons, List.all_nil, isIntV]
  rw [decide_eq_true h2, decide_eq_true (show gcdI (gcdI t.1 t.2.1) t.2.2 ≤ 1 by omega)]
  rcases h4 with h4 | h4
  · rw [decide_eq_true h4]; rfl
  · rw [decide_eq_false h4]; simp
/-- where every item is a root number -/
def spCheck0 : Sp := fun vs H Q _ => ∃ (D : Int) (a : Addr) (rs : List Addr), vs = [.int D, .ref a] ∧ Meas D ∧ D < 2 ^ 2000 ∧ H a = some (.tup (rs.map V.ref)) ∧ (∀ r ∈ rs, ∃ t, RootAt D H r t) ∧ ∀ H', Same H H' → Q .non H'
def spSgn : Sp := fun vs H Q _ => ∃ x : Int, vs = [.int x] ∧ Q (.int (sgn x)) H
def spFlM : Sp := fun vs H Q _ => ∃ D y : Int, vs = [.int D, .int y] ∧ 0 < D ∧ D < 2 ^ 1000 ∧ -(2 ^ 1000) < y ∧ y < 2 ^ 1000 ∧ Q (.int (flM D y)) H
/-- no part is too large -/
def Small (t : Int × Int × Int) : Prop := t.1.natAbs < 2 ^ 900 ∧ t.2.1.natAbs < 2 ^ 900 ∧ t.2.2.natAbs < 2 ^ 900
def spRootSide : Sp := fun vs H Q _ => ∃ (D : Int) (a : Addr) (t : Int × Int × Int), vs = [.int D, .ref a] ∧ Meas D ∧ D < 2 ^ 500 ∧ RootAt D H a t ∧ Small t ∧ ∀ H', Same H H' → Q (.int (sideP D t.1 t.2.1)) H'
def spRootFloor : Sp := fun vs H Q _ => ∃ (D : Int) (a : Addr) (t : Int × Int × Int), vs = [.int D, .ref a] ∧ Meas D ∧ D < 2 ^ 500 ∧ RootAt D H a t ∧ Small t ∧ ∀ H', Same H H' → Q (.int ((t.1 + flM D t.2.1).fdiv t.2.2)) H'
/-! ### the law's own -/
def spMeasure : Sp := fun vs H Q _ => ∃ (g : Addr) (n : Int) (k : Nat), vs = [.ref g, .int n] ∧ GenAt H g k ∧ k ≤ 2 ^ 39 ∧ 1 ≤ n ∧ n ≤ 40 ∧ ∀ (D : Int) (H' : Hp), Meas D → D < 2 ^ 200 → GenAt H' g (k + 100) → Keep g H H' → Q (.int D) H'
def spLeast : Sp := fun vs H Q _ => ∃ D x y b : Int, vs = [.int D, .int x, .int y, .int b] ∧ 0 ≤ D ∧ D < 2 ^ 1000 ∧ x.natAbs < 2 ^ 2000 ∧ y.natAbs < 2 ^ 2000 ∧ b.natAbs < 2 ^ 2000 ∧ b ≠ 0 ∧ ∀ (p : Addr) (H' : Hp), H p = none → Same H H' → H' p = some (.tup (rootV (least D x y b))) → Q (.ref p) H'
def spSideF : Sp := fun vs H Q _ => ∃ D x y : Int, vs = [.int D, .int x, .int y] ∧ 0 ≤ D ∧ D < 2 ^ 1000 ∧ x.natAbs < 2 ^ 2450 ∧ y.natAbs < 2 ^ 1000 ∧ Q (.int (sideF D x y)) H
def spDrawn : Sp := fun vs H Q _ => ∃ (g : Addr) (D n : Int) (k : Nat), vs = [.ref g, .int D, .int n] ∧ GenAt H g k ∧ k ≤ 2 ^ 39 ∧ 0 ≤ D ∧ D < 2 ^ 500 ∧ 1 ≤ n ∧ n ≤ 40 ∧
  ∀ (x y b : Int) (p : Addr) (H' : Hp), x.natAbs < 2 ^ 150 → y.natAbs < 2 ^ 150 → 1 ≤ b → b < 2 ^ 150 → H p = none → H' p = some (.tup (rootV (least D x y b))) → GenAt H' g (k + 100) → Keep g H H' → Q (.ref p) H'
def spFloorRight : Sp := fun vs H Q _ => ∃ (D : Int) (a : Addr) (t : Int × Int × Int), vs = [.int D, .ref a] ∧ Meas D ∧ D < 2 ^ 500 ∧ RootAt D H a t ∧ Small t ∧ ∀ H', Same H H' → Q (.bl true) H'
theorem Keep.free {g p : Addr} {H H' : Hp} (k : Keep g H H') (hp : p ≠ g) (h : H' p = none) : H p = none := by
  cases e : H p with
  | none => rfl
  | some o =>
    rw [k p o hp e] at h
    cases h
theorem wholes_get {H : Hp} {m : Int} {x : V} (h : wholesB H m x = true) : ∃ a xs, x = .ref a ∧ H a = some (.tup xs) ∧ (xs.length : Int) = m ∧ xs.all isIntV = true := by
  cases x with
  | ref a =>
    have h2 : (match H a with | some (.tup xs) => decide ((xs.length : Int) = m) && xs.all isIntV | _ => false) = true := h
    cases e : H a with
    | none => rw [e] at h2; cases h2
    | some o =>
      rw [e] at h2
      cases o with
      | tup xs =>
        obtain ⟨p, q⟩ := Bool.and_eq_true_iff.mp h2
        exact ⟨a, xs, rfl, e, of_decide_eq_true p, q⟩
      | _ => cases h2
  | _ => cases h
theorem isInt_get {x : V} (h : isIntV x = true) : ∃ i, x = .int i := by
  cases x with
  | int i => exact ⟨i, rfl⟩
  | _ => cases h
theorem wholes3 {H : Hp} {x : V} (h : wholesB H 3 x = true) : ∃ a i j k, x = .ref a ∧ H a = some (.tup [.int i, .int j, .int k]) := by
  obtain ⟨a, xs, e, ha, hl, hall⟩ := wholes_get h
  have hl3 : xs.length = 3 := by omega
  match xs, hl3 with
  | [u, v, w'], _ =>
    simp only [List.all_cons, List.all_nil, Bool.and_true, Bool.and_eq_true] at hall
    obtain ⟨h1, h2, h3⟩ := hall
    obtain ⟨i, rfl⟩ := isInt_get h1
    obtain ⟨j, rfl⟩ := isInt_get h2
    obtain ⟨l, rfl⟩ := isInt_get h3
    exact ⟨a, i, j, l, e, ha⟩
theorem rootB3 {D : Int} {H : Hp} {a : Addr} {i j k : Int} (h : H a = some (.tup [.int i, .int j, .int k])) : rootB D H (.ref a) = (decide (1 ≤ k) && (decide (gcdI (gcdI i j) k ≤ 1) && (decide (j = 0) || !decide (Sq D)))) := by
  unfold rootB wholesB
  simp only [h, List.length_cons, List.length_nil, List.all_cons, List.all_nil, isIntV, Bool.and_self, Bool.and_true]
  rfl
theorem rootB_not {D : Int} {H : Hp} {x : V} (h : wholesB H 3 x = false) : rootB D H x = false := by
  unfold rootB
  rw [h, Bool.false_and]
theorem measB_int {i : Int} : measB (.int i) = (decide (5 ≤ i) && decide (i % 4 < 2)) := rfl
theorem rIsi_ty {K : PySem.W.Frag} {H : Hp} {x : V} {t c : String} {b : Bool} {Q : VK} (ht : tyS H x = some t) (hb : kitB t c = some b) (q : Q (.bl b) H) : rIsi K [x, .ty c] H Q :=
  ⟨x, .ty c, .type t, .type c, b, rfl, .ty c, (tyS_of ht).1, kit_ty hb, q⟩
theorem tyS_tuple {H : Hp} {x : V} (h : tyS H x = some "tuple") : ∃ a xs, x = .ref a ∧ H a = some (.tup xs) := by
  cases x with
  | ref a =>
    have h2 : (match H a with | some (.lst _) => some "list" | some (.tup _) => some "tuple" | some (.dK _) => some "dict" | _ => none) = some "tuple" := h
    cases e : H a with
    | none => rw [e] at h2; cases h2
    | some o =>
      rw [e] at h2
      cases o with
      | tup xs => exact ⟨a, xs, rfl, e⟩
      | lst xs => exact absurd (Option.some.inj h2) (by decide)
      | dK xs => exact absurd (Option.some.inj h2) (by decide)
      | _ => cases h2
  | non => exact absurd (Option.some.inj h) (by decide)
  | bl _ => exact absurd (Option.some.inj h) (by decide)
  | int _ => exact absurd (Option.some.inj h) (by decide)
  | str _ => exact absurd (Option.some.inj h) (by decide)
  | _ => cases h
theorem tyS_tup {H : Hp} {a : Addr} {xs : List V} (h : H a = some (.tup xs)) : tyS H (.ref a) = some "tuple" := by
  show (match H a with | some (.lst _) => some "list" | some (.tup _) => some "tuple" | some (.dK _) => some "dict" | _ => none) = some "tuple"
  rw [h]
theorem wholes_not {H : Hp} {m : Int} {x : V} {t : String} (h : tyS H x = some t) (ht : t ≠ "tuple") : wholesB H m x = false := by
  cases hw : wholesB H m x with
  | false => rfl
  | true =>
    obtain ⟨a, xs, rfl, ha, _⟩ := wholes_get hw
    rw [tyS_tup ha] at h
    exact absurd (Option.some.inj h).symm ht
theorem wholes_tup {H : Hp} {m : Int} {a : Addr} {xs : List V} (h : H a = some (.tup xs)) : wholesB H m (.ref a) = (decide ((xs.length : Int) = m) && xs.all isIntV) := by
  unfold wholesB
  simp only [h]
theorem any_tuple (K : PySem.W.Frag) {H : Hp} {x : V} (h : OkItem H x) : (∃ t, tyS H x = some t ∧ kitB t "tuple" = some false ∧ t ≠ "tuple") ∨ (∃ a xs, x = .ref a ∧ H a = some (.tup xs)) := by
  obtain ⟨t, ht⟩ := h
  have hm := (tyS_of (K := K) ht).2.1
  simp only [List.mem_cons, List.not_mem_nil, or_false] at hm
  rcases hm with rfl | rfl | rfl | rfl | rfl | rfl | rfl
  · exact .inl ⟨_, ht, by decide +kernel, by decide⟩
  · exact .inl ⟨_, ht, by decide +kernel, by decide⟩
  · exact .inl ⟨_, ht, by decide +kernel, by decide⟩
  · exact .inl ⟨_, ht, by decide +kernel, by decide⟩
  · exact .inl ⟨_, ht, by decide +kernel, by decide⟩
  · exact .inr (tyS_tuple ht)
  · exact .inl ⟨_, ht, by decide +kernel, by decide⟩
theorem rt_le {n : Int} (h : 0 ≤ n) : 0 ≤ rt n ∧ rt n ≤ n := by
  obtain ⟨s0, s1, s2⟩ := rt_spec h
  refine ⟨s0, ?_⟩
  by_cases h : rt n ≤ 0
  · omega
  · have := Int.mul_le_mul_of_nonneg_right (show 1 ≤ rt n by omega) s0
    omega
theorem ediv_size {x b : Int} (h : 1 ≤ b) : (x / b).natAbs ≤ x.natAbs + 1 := by
  have h1 := Int.emod_nonneg x (show b ≠ 0 by omega)
  have h2 := Int.emod_lt_of_pos x (show 0 < b by omega)
  have h3 := Int.mul_ediv_add_emod x b
  by_cases hx : 0 ≤ x
  · have h4 := Int.ediv_nonneg hx (show 0 ≤ b by omega)
    have h5 := Int.ediv_le_self b hx
    omega
  · have hq : x / b ≤ -1 := by
      by_cases h : x / b ≤ -1
      · exact h
      · have := Int.mul_nonneg (show 0 ≤ b by omega) (show 0 ≤ x / b by omega)
        omega
    have h6 := Int.mul_le_mul_of_nonpos_right h (show x / b + 1 ≤ 0 by omega)
    rw [Int.mul_add, Int.mul_one] at h6
    omega
theorem flat_int {i : Int} (h : i.natAbs < 2 ^ 1900) : flatText (.int i) = some (toString i : Str) := by
  have h2 : i.natAbs.log2 < 1920 := Nat.lt_of_lt_of_le (PySem.Flt.log2_lt_of (by decide) h) (by decide)
  show (if i.natAbs.log2 < 1920 then some (toString i : Str) else none) = _
  rw [if_pos h2]
theorem sideF_small (D x y : Int) : (sideF D x y).natAbs ≤ 1 := by
  unfold sideF
  repeat' split
  all_goals decide
theorem least_small {D x y b : Int} (h0 : 0 ≤ D) (h1 : D < 2 ^ 200) (hx : x.natAbs < 2 ^ 600) (hy : y.natAbs < 2 ^ 600) (hb : b.natAbs < 2 ^ 600) (hb0 : b ≠ 0) : Small (least D x y b) := by
  obtain ⟨r0, r1⟩ := rt_le h0
  unfold least Small
  split
  · have w1 : (y * rt D).natAbs < 2 ^ (600 + 200) := wide_lt hy (by omega)
    simp only [Nat.reduceAdd] at w1
    obtain ⟨p, q, r⟩ := red_size (x := x + y * rt D) (y := 0) hb0
    exact ⟨by omega, by omega, by omega⟩
  · obtain ⟨p, q, r⟩ := red_size (x := x) (y := y) hb0
    exact ⟨by omega, by omega, by omega⟩
theorem RootAt.least {D x y b : Int} {H : Hp} {a : Addr} (h : H a = some (.tup (rootV (least D x y b)))) (hb0 : b ≠ 0) : RootAt D H a (least D x y b) := ⟨h, least_good hb0⟩
/-- behind all draws: what stood stands, a generator apart -/
def spRight (K : PySem.W.Frag) : Sp := fun vs H Q _ => ∃ g : Addr, vs = [.ref g] ∧ GenAt H g 100000 ∧ ∀ H', Keep g H H' → Q (.bl true) H'
def spLaw (K : PySem.W.Frag) : Sp := fun vs H Q _ => ∃ (a : Addr) (ns : List Int), vs = [.ref a] ∧ SqL K H a (ns.map V.int) ∧ ns.length ≤ 63 ∧ ∀ H', Q (.bl true) H'

theorem dpAll_ints {K : PySem.W.Frag} {H : Hp} : ∀ ns : List Int, DpAll K H (ns.map V.int) (ns.map PyData.int)
  | [] => .nil
  | n :: ns => .cons (.int n) (dpAll_ints ns)
theorem dp_ints {K : PySem.W.Frag} {H : Hp} {a : Addr} {ns : List Int} (h : H a = some (.lst (ns.map V.int))) : Dp K H (.ref a) (.list (ns.map PyData.int)) := .lst (SqL.of h) (dpAll_ints ns)
theorem eqv_same {d : PyData} (h : SeqAt.shaped d = true) : PyData.eqv d d = true := SeqAt.eqv_refl d (SeqAt.canLay_of_shaped h)
/-- two lists of the same ints -/
theorem ne_ints {K : PySem.W.Frag} {H : Hp} {a b : Addr} {Q : VK} (ns : List Int) (h1 : H a = some (.lst (ns.map V.int))) (h2 : H b = some (.lst (ns.map V.int))) (hs : SeqAt.shaped (.list (ns.map PyData.int)) = true) (q : Q (.bl false) H) : rNeD K (.ref a) (.ref b) H Q :=
  ⟨_, _, dp_ints h1, dp_ints h2, hs, hs, by rw [eqv_same hs]; exact q⟩
theorem eq_ints {K : PySem.W.Frag} {H : Hp} {a b : Addr} {Q : VK} (ns : List Int) (h1 : H a = some (.lst (ns.map V.int))) (h2 : H b = some (.lst (ns.map V.int))) (hs : SeqAt.shaped (.list (ns.map PyData.int)) = true) (q : Q (.bl true) H) : rEqD K (.ref a) (.ref b) H Q :=
  ⟨_, _, dp_ints h1, dp_ints h2, hs, hs, by rw [eqv_same hs]; exact q⟩
theorem ne_new {H : Hp} {p q : Addr} {o : HO} (h : upd H p o q = none) : p ≠ q := fun z => by
  rw [← z, upd_same] at h
  cases h
end Kx

set_option Elab.async false
set_option linter.all false
set_option maxRecDepth 100000
set_option maxHeartbeats 4000000
set_option exponentiation.threshold 4000
/-! Defs that ask for the repr of data: no repr is under way around them. -/
namespace Kx
open PySem PySem.Spec PyProof.Rows L2

structure FnG (P : Program) (w : World) (K : PySem.W.Frag) (mg : Str → Option Value) (base : Heap) (k : Nat) (f : Addr) (fd : FuncData) (ps : List Str) (sp : Sp) : Prop where
  len : ∀ vs H Q E, sp vs H Q E → vs.length = ps.length
  run : ∀ (A : Around) (outer : List Env) (s : Shared) (H : Hp) (args : Args) (us : List Value) (vs : List V) (Q : VK) (E : XK), A.guards = some [] → Room k A → Env0 P w K mg base A outer s H → BindsTo s fd args (ps.zip us) → Vals vs us → sp vs H Q E →
    codeAny (model P w) A (.call (.ref f) args) (CR CX0 outer P w H s Q E) s
theorem FnG.of {P : Program} {w : World} {K : PySem.W.Frag} {mg : Str → Option Value} {base : Heap} {k : Nat} {f : Addr} {fd : FuncData} {ps : List Str} {sp : Sp} (F : FnOk P w K mg base CX0 k f fd ps sp) : FnG P w K mg base k f fd ps sp :=
  ⟨F.len, fun A outer s H args us vs Q E _ => F.run A outer s H args us vs Q E⟩
section
variable {P : Program} {w : World} {K : PySem.W.Frag} {mg : Str → Option Value} {base : Heap}
/-- a def by its body, which may lean on the guards -/
theorem fnG_mk {x qual : Str} {st : Stmt} {f : Addr} {fd : FuncData} {N ps : List Str} {k : Nat} {sp : Sp} (F : Fun K x qual st f fd) (S : FnScope N ps (defScope st)) (hlen : ∀ vs H Q E, sp vs H Q E → vs.length = ps.length)
    (body : ∀ (cdv : Value) (A : Around) (outer : List Env) (s : Shared) (H : Hp) (vs : List V) (Q : VK) (E : XK), (A.deeper (envOfC qual (defScope st) s.heap.objs.size f cdv)).guards = some [] → Room k (A.deeper (envOfC qual (defScope st) s.heap.objs.size f cdv)) → sp vs H Q E →
      ∃ t, PSs (cxOf CX0 P w K mg base N qual (defScope st) f cdv A outer s H E).nox (defBody st) t ∧ t { nx := fun _ H' => Q .non H', rt := Q } (L2.start N vs) H) : FnG P w K mg base (k + 1) f fd ps sp := by
  obtain ⟨cls0, dct0, kwd0, doc0, mod0, ann0, cdv, typ0, slots0, rfl, look, code⟩ := F.ex
  constructor
  · exact hlen
  · intro A outer s H args us vs Q E gd room e0 binds rel hsp
    have ln := hlen _ _ _ _ hsp
    have kept : ∀ b o, base.get? b = some o → s.heap.get? b = some o := fun b o z => (e0.bs b o z).1
    have kin := e0.mod.kin.keeps kept
    have kinds : ∀ y ∈ ps.zip us, (defScope st).names.lookup y.1 = some .local ∨ ((defScope st).names.lookup y.1 = some .cell ∧ ((cellsFrom (s.heap.objs.size + 1) (defScope st).names []).lookup y.1).isSome = true) := by
      rintro ⟨nm, vl⟩ hy
      rcases S.par nm (List.of_mem_zip hy).1 with h | h
      · left; exact h
      · right; exact ⟨h, PySem.W.cellsFrom_some _ _ _ (.inl h)⟩
    apply codeAny_call_function room.depth (kin _ _ look) rfl S.co S.gen rfl (PySem.W.codeRec_of kin code)
    apply binds
    refine wpAny_newFunctionEnv_cells S.kind kinds fun env henv s1 ic => ?_
    subst henv
    refine ⟨(e0.mod.nolimit.keeps kept).keeps ic.toInCall.keep, codeAny_func ?_⟩
    obtain ⟨t, der, rd⟩ := body cdv A outer s H vs Q E gd (room.deeper _) hsp
    have inv0 : Inv (cxOf CX0 P w K mg base N qual (defScope st) f cdv A outer s H E) [] (L2.start N vs) H s1 := inv_start S room.hd e0 ln rel ic
    have back : ∀ {σ1 : SV} {H1 : Hp} {s2 : Shared} {v : V} {u : Value}, Inv (cxOf CX0 P w K mg base N qual (defScope st) f cdv A outer s H E) [] σ1 H1 s2 → RelV v u → Q v H1 → CE outer P w H s Q u s2 := by
      intro σ1 H1 s2 v u J rv q
      exact ⟨v, H1, J.os, J.bare, J.base, J.hok, rv, q⟩
    refine wpAny_mono (der.nox.run [] s1 (L2.start N vs) H _ inv0 rd) (fun fl s2 hs => ?_) fun e s2 hs => hs
    cases fl with
    | ret u => exact let ⟨v, σ1, H1, J, rv, q⟩ := hs; back J rv q
    | next => exact let ⟨σ1, H1, J, q⟩ := hs; back (v := V.non) (u := Value.none) J rfl q
    | brk => exact let ⟨_, _, _, q⟩ := hs; q.elim
    | cont => exact let ⟨_, _, _, q⟩ := hs; q.elim
end
structure DefG (P : Program) (w : World) (K : PySem.W.Frag) (mg : Str → Option Value) (base : Heap) (k : Nat) (x : Str) (f : Addr) (fd : FuncData) (ps : List Str) (sp : Sp) : Prop where
  F : FnG P w K mg base k f fd ps sp
  m : mg x = some (.ref f)
  kp : PySem.W.keepIn K (.ref f) = true
  b : Binds K fd ps []
section
variable {X : Cx} {k j : Nat} {f : Addr} {fd : FuncData} {ps ks : List Str} {sp : Sp} {x : Str} {p pos : Pos} {e : Expr} {es : List Expr} {t tk : TA} {kws : List Keyword}
theorem pe_g (D : DefG X.prog X.w X.K X.mg X.base k x f fd ps sp) (gd : X.A.guards = some []) (hr : Room j X.A) (ha : PA X (e :: es) t) (hkj : k ≤ j := by decide) (hg : Gl X x := by rfl) (hdb : (x == ("__debug__" : Str)) = false := by decide)
    (he : starEach (e :: es) X.env = (false, eval e X.env) :: starEach es X.env := by rfl) (hpl : (backTo pos (starEach es X.env)).any (·.1) = false := by rfl) : PE X (.Call (.Name x p) (e :: es) [] pos) (tD sp t) := by
  refine ⟨fun pins s σ H Q I h => wpAny_Call_Name_kw (ld_glob I hg D.m ?_ hdb)⟩
  refine PySem.W.callWith_K (h₀ := X.base) I.ok.mod.kin D.kp (thn (ha.run pos pins s σ H _ I h) fun us s1 ⟨vs, H1, I1, r, q⟩ => ⟨I1.kIn, ?_⟩) he hpl
  have hl : us.length = ps.length := r.length.symm.trans (D.F.len _ _ _ _ q)
  have hb := D.b s1 us I1.kIn (by rw [List.append_nil]; exact hl)
  rw [List.append_nil] at hb
  refine wpAny_call (codeAny_mono (D.F.run X.A X.stack s1 H1 ⟨us, []⟩ us vs Q E0 gd (hr.mono hkj) I1.env0 hb r q) fun rr s2 hq => ?_)
  cases rr with
  | error er => exact (hq : False).elim
  | ok fl =>
    cases fl with
    | ret u => exact I1.after hq
    | next => exact False.elim hq
    | brk => exact False.elim hq
    | cont => exact False.elim hq
end
/-- repr of data -/
theorem cr_reprD {X : Cx} (gd : X.A.guards = some []) (hu : X.A.units + 64 < cLine) : CallR X (.builtin "repr") (fun vs H Q => ∃ (x : V) (d : PyData), vs = [x] ∧ Dp X.K H x d ∧ d.showable = true ∧ d.hasDict = false ∧ d.depth ≤ 60 ∧ d.shown.length ≤ sizeLine ∧ Q (.str d.shown) H) := by
  intro pins s σ H vs us Q I r h
  obtain ⟨x, d, rfl, hd, h1, h2, h3, h4, q⟩ := h
  obtain ⟨u, rfl, rx⟩ := vals1 r
  cases x with
  | ref a =>
    cases rx
    obtain ⟨as, rd⟩ := Dp.reads I d (.ref a) (.ref a) hd rfl
    exact repr_of_reads' rd h1 (PyData.noDict_hsm h2) gd (by omega) (fun _ _ z => z) (fun h' t tk hk => ⟨.str d.shown, H, I.kept hk, ⟨_, rfl⟩, q⟩) h4
  | int i =>
    cases hd
    obtain ⟨t, rfl⟩ := rx
    exact PySem.P.repr_of_int (by simpa [PyData.showable] using h1) ⟨.str _, H, I.tok _, ⟨_, rfl⟩, by simpa only [PyData.shown] using q⟩
  | bl b =>
    cases hd
    cases rx
    exact PySem.P.repr_of_bool ⟨.str _, H, I.tok _, ⟨_, rfl⟩, by simpa only [PyData.shown] using q⟩
  | non =>
    cases hd
    cases rx
    exact PySem.P.repr_of_none ⟨.str _, H, I.tok _, ⟨_, rfl⟩, by simpa only [PyData.shown] using q⟩
  | str z =>
    cases hd
    obtain ⟨t, rfl⟩ := rx
    exact PySem.P.repr_of_str ⟨.str _, H, I.tok _, ⟨_, rfl⟩, by simpa only [PyData.shown] using q⟩ (by simpa only [PyData.shown] using h4)
  | _ => cases hd
end Kx
namespace Kx
open PySem PySem.Spec PyProof.Rows L2
section
variable {P : Program} {w : World} {K : PySem.W.Frag} {mg mb : Str → Option Value} {k : Nat} {fa a : Addr} {fd : FuncData} {x : Str} {sp : Sp} {s₁ : Shared} {vs : List Value} {ns : List Int}
/-- the law's def at a heap in which nothing but the script is tracked -/
theorem lawG_at (kin : K.In s₁.heap) (gl : s₁.heap.Ns mainGlobals mg) (bl : s₁.heap.Ns builtinsNs mb) (bb : ∀ x : Str, x ≠ "__name__" → mb x = bootBuiltins x) (lim : s₁.heap.NoLimit) (gens : s₁.gens = #[])
    (sc : s₁.heap.get? a = some { cls := .type "list", data := .seq vs.toArray }) (hr : Room k callerA)
    (F : ∀ base : Heap, K.In base → base.Ns mainGlobals mg → FnG P w K mg base k fa fd [x] sp) (bind : ∀ (s : Shared) (u : Value), BindsTo s fd ⟨[u], []⟩ [(x, u)])
    (H : Hp) (only : Only H) (ok : HOk P w H s₁.heap) (lone : ∀ b, H b ≠ none → b = a) (notK : H a ≠ none → K.lookup a = none) (want : sp [.ref a] H (fun v _ => v = .bl true) E0) :
    codeAny (model P w) callerA (.call (.ref fa) ⟨[.ref a], []⟩) (fun r s' => r = .ok (.ret (.bool true)) ∧ OldK s₁.heap s'.heap ∧ s'.os = s₁.os ∧ AllBare s'.gens) s₁ := by
  have free : ∀ {b : Addr}, b ≠ a → H b = none := fun {b} hb => by
    cases q : H b with
    | none => rfl
    | some u => exact (hb (lone b (by rw [q]; exact Option.some_ne_none u))).elim
  have dictFree : ∀ {b : Addr} {o : Obj} {es : Array DictEntry} {ep : Nat}, s₁.heap.get? b = some o → o.data = .dict es ep → H b = none := fun {b o es ep} e d => by
    by_cases hb : b = a
    · subst hb
      rw [sc] at e
      cases e
      exact absurd d (fun z => by cases z)
    · exact free hb
  have kNs : ∀ {b : Addr} {m : Str → Option Value}, s₁.heap.Ns b m → (hidT s₁.heap H).Ns b m := by
    rintro b m ⟨o, es, ep, e, d, r⟩
    exact ⟨o, es, ep, hidT_get e (dictFree e d), d, r⟩
  have kFree : ∀ b o, K.lookup b = some o → H b = none := fun b o e => by
    by_cases hb : b = a
    · subst hb
      cases q : H b with
      | none => rfl
      | some u =>
        rw [notK (by rw [q]; exact Option.some_ne_none u)] at e
        cases e
    · exact free hb
  have kinB : K.In (hidT s₁.heap H) := fun b o e => hidT_get (kin b o e) (kFree b o e)
  have modB : Mod K mg (hidT s₁.heap H) := ⟨kinB, kNs gl, ⟨mb, kNs bl, bb⟩, by
    obtain ⟨mc, l1, l2⟩ := lim
    exact ⟨mc, kNs l1, l2⟩⟩
  have entry : Env0 P w K mg (hidT s₁.heap H) callerA [] s₁ H :=
    { frames := rfl, mod := modB, bs := fun b o e => of_hidT e, bsz := Nat.le_of_eq (hidT_size _ _), funs := trivial, frf := fun b hb => (by cases hb), hok := ok, bare := .of_eq gens }
  have go := (F _ kinB (kNs gl)).run callerA [] s₁ H ⟨[.ref a], []⟩ [.ref a] [.ref a] (fun v _ => v = .bl true) E0 rfl hr entry (bind s₁ (.ref a)) (.cons rfl .nil) want
  refine codeAny_mono go fun r s' h => ?_
  match r, h with
  | .error _, h => exact (h : False).elim
  | .ok .next, h => exact (h : False).elim
  | .ok .brk, h => exact (h : False).elim
  | .ok .cont, h => exact (h : False).elim
  | .ok (.ret u), h =>
    obtain ⟨v, H1, os, bare, un, ok1, rel, q⟩ := h
    have q1 : v = .bl true := q
    rw [q1] at rel
    have ru : u = Value.bool true := rel
    rw [ru]
    refine ⟨rfl, OldK.of_keep fun b o e => ?_, os, bare⟩
    cases hb : H b with
    | none => exact un.keep b o e hb (fun z => by cases z) (fun z => by cases z)
    | some t =>
      rcases only b with z | ⟨ob, xs, z⟩
      · rw [hb] at z; cases z
      · have e1 := (ok b _ z).1
        rw [e] at e1
        cases e1
        exact (ok1 b _ (un.frzs b _ _ z)).1
theorem lawG (kin : K.In s₁.heap) (gl : s₁.heap.Ns mainGlobals mg) (bl : s₁.heap.Ns builtinsNs mb) (bb : ∀ x : Str, x ≠ "__name__" → mb x = bootBuiltins x) (lim : s₁.heap.NoLimit) (gens : s₁.gens = #[])
    (sc : s₁.heap.get? a = some { cls := .type "list", data := .seq vs.toArray }) (hints : IntsAre vs ns) (hl : ns.length ≤ sizeLine) (hr : Room k callerA)
    (F : ∀ base : Heap, K.In base → base.Ns mainGlobals mg → FnG P w K mg base k fa fd [x] sp) (bind : ∀ (s : Shared) (u : Value), BindsTo s fd ⟨[u], []⟩ [(x, u)])
    (want : ∀ H : Hp, Only H → SqL K H a (ns.map V.int) → sp [.ref a] H (fun v _ => v = .bl true) E0) :
    codeAny (model P w) callerA (.call (.ref fa) ⟨[.ref a], []⟩) (fun r s' => r = .ok (.ret (.bool true)) ∧ OldK s₁.heap s'.heap ∧ s'.os = s₁.os ∧ AllBare s'.gens) s₁ := by
  have rv := vals_ints hints
  have lenV := hints.length
  cases hk : K.lookup a with
  | some o =>
    have e := kin a o hk
    rw [sc] at e
    cases e
    have on : Only (fun _ => none) := fun _ => .inl rfl
    refine lawG_at kin gl bl bb lim gens sc hr F bind (fun _ => none) on (fun b u z => by cases z) (fun b z => (z rfl).elim) (fun z => (z rfl).elim) (want _ on ?_)
    exact .inr ⟨_, vs.toArray, _, hk, rfl, rfl, rfl, by rw [List.size_toArray, lenV]; exact hl, by simpa using rv⟩
  | none =>
    have on : Only (fun b => if b = a then some (.frz { cls := .type "list", data := .seq vs.toArray } (.lst (ns.map V.int))) else none) := fun b => by
      by_cases hb : b = a
      · exact .inr ⟨_, _, if_pos hb⟩
      · exact .inl (if_neg hb)
    refine lawG_at kin gl bl bb lim gens sc hr F bind _ on (fun b u z => ?_) (fun b z => ?_) (fun _ => hk) (want _ on (.inl (.inr ⟨_, if_pos rfl⟩)))
    · by_cases hb : b = a
      · have z1 := (if_pos hb).symm.trans z
        cases z1
        rw [hb]
        exact ⟨sc, by rw [List.length_map]; exact hl, vs, _, rv, sc⟩
      · have z1 := (if_neg hb).symm.trans z
        cases z1
    · by_cases hb : b = a
      · exact hb
      · exact (z (if_neg hb)).elim
end
theorem walkG {l : PySem.W.OpenLaw} {n k : Nat} {q : Program} {loose : List Str} {XP : (Str → Option Value) → Heap → Prop} {YP : World → Heap → Prop} {d : DefRec} {K : Params → PySem.W.Frag} {sp : World → Sp} {x : Str}
    (hn : l.most = some n) (hn2 : n ≤ sizeLine) (hdf : d.params.defaults = []) (hr : Room k callerA) (hY : ∀ (w : World) (h : Heap), YP w h → (K w.params).In h)
    (F : ∀ (w : World) (mg : Str → Option Value) (fa : Addr) (h : Heap), (K w.params).In h → h.Ns mainGlobals mg → mg d.name = some (.ref fa) →
      ∃ fd : FuncData, (∀ (s : Shared) (u : Value), BindsTo s fd ⟨[u], []⟩ [(x, u)]) ∧ ∀ base : Heap, (K w.params).In base → base.Ns mainGlobals mg → FnG l.prog w (K w.params) mg base k fa fd [x] (sp w))
    (want : ∀ (w : World) (H : Hp) (a : Addr) (ns : List Int), ns.length ≤ n → Only H → SqL (K w.params) H a (ns.map V.int) → sp w [.ref a] H (fun v _ => v = .bl true) E0) :
    PySem.W.WalkO q loose XP YP l.row.toRowW d [] (fun f vs => PySem.call f vs) := by
  apply Att.attach_call hn hdf
  intro w s₀ s₁ mg mb fa o pm cd doc a vs ns G Y ho hd hcd hmg hobj hints hlen hg
  obtain ⟨fd, hb, hF⟩ := F w mg fa _ (hY w _ Y) G.T.g hmg
  exact lawG (hY w _ Y) G.T.g G.T.b G.T.builtins G.T.nolimit hg hobj hints (Nat.le_trans hlen hn2) hr hF hb (fun H hO hS => want w H a ns hlen hO hS)
end Kx

set_option Elab.async false
set_option linter.all false
set_option maxRecDepth 100000
set_option maxHeartbeats 4000000
set_option exponentiation.threshold 4000
/-! The reckoning of root numbers. -/
namespace Kx
open PySem
theorem least_red {D x y b : Int} (h : Sq D → y = 0) : least D x y b = red x y b := by
  unfold least
  split
  · rename_i hs
    rw [h hs, Int.zero_mul, Int.add_zero]
  · rfl
def plusT (D s : Int) (t u : Int × Int × Int) : Int × Int × Int := least D (t.1 * u.2.2 + s * u.1 * t.2.2) (t.2.1 * u.2.2 + s * u.2.1 * t.2.2) (t.2.2 * u.2.2)
def timesT (D : Int) (t u : Int × Int × Int) : Int × Int × Int := least D (t.1 * u.1 + D * t.2.1 * u.2.1) (t.1 * u.2.1 + t.2.1 * u.1) (t.2.2 * u.2.2)
def normT (D : Int) (u : Int × Int × Int) : Int := u.1 * u.1 - D * u.2.1 * u.2.1
def invT (D : Int) (u : Int × Int × Int) : Int × Int × Int := least D (u.2.2 * u.1) (-u.2.2 * u.2.1) (normT D u)
theorem Good.flat {D : Int} {t : Int × Int × Int} (h : Good D t) (s : Sq D) : t.2.1 = 0 := by
  rcases h.2.2 with h | h
  · exact h
  · exact absurd s h
theorem mul_ne {a b : Int} (h : a ≠ 0) (h2 : b ≠ 0) : a * b ≠ 0 := Int.mul_ne_zero h h2
theorem below_ne {D : Int} {t : Int × Int × Int} (h : Good D t) : t.2.2 ≠ 0 := by have := h.1; omega
theorem plus_good {D s : Int} {t u : Int × Int × Int} (ht : Good D t) (hu : Good D u) : Good D (plusT D s t u) := least_good (mul_ne (below_ne ht) (below_ne hu))
theorem times_good {D : Int} {t u : Int × Int × Int} (ht : Good D t) (hu : Good D u) : Good D (timesT D t u) := least_good (mul_ne (below_ne ht) (below_ne hu))
theorem norm_ne {D : Int} {u : Int × Int × Int} (h0 : 0 ≤ D) (hu : Good D u) (hz : ¬ (u.1 = 0 ∧ u.2.1 = 0)) : normT D u ≠ 0 := fun e => by
  unfold normT at e
  by_cases hy : u.2.1 = 0
  · rw [hy] at e
    have h1 : u.1 ≠ 0 := fun z => hz ⟨z, hy⟩
    have h2 := xx_pos h1
    rw [Int.mul_zero] at e
    omega
  · rcases hu.2.2 with h | h
    · exact hy h
    · exact h (sq_of (x := u.1) h0 hy (by omega))
theorem plus_red {D s : Int} {t u : Int × Int × Int} (ht : Good D t) (hu : Good D u) : plusT D s t u = red (t.1 * u.2.2 + s * u.1 * t.2.2) (t.2.1 * u.2.2 + s * u.2.1 * t.2.2) (t.2.2 * u.2.2) :=
  least_red fun h => by rw [ht.flat h, hu.flat h, Int.zero_mul, Int.mul_zero, Int.zero_mul]; rfl
theorem times_red {D : Int} {t u : Int × Int × Int} (ht : Good D t) (hu : Good D u) : timesT D t u = red (t.1 * u.1 + D * t.2.1 * u.2.1) (t.1 * u.2.1 + t.2.1 * u.1) (t.2.2 * u.2.2) :=
  least_red fun h => by rw [ht.flat h, hu.flat h, Int.zero_mul, Int.mul_zero]; rfl
theorem inv_red {D : Int} {u : Int × Int × Int} (hu : Good D u) : invT D u = red (u.2.2 * u.1) (-u.2.2 * u.2.1) (normT D u) :=
  least_red fun h => by rw [hu.flat h, Int.mul_zero]
theorem inv_good {D : Int} {u : Int × Int × Int} (h0 : 0 ≤ D) (hu : Good D u) (hz : ¬ (u.1 = 0 ∧ u.2.1 = 0)) : Good D (invT D u) := least_good (norm_ne h0 hu hz)
theorem ringA (a3 p a1 P1 D a2 P2 : Int) : a3 * p * (a1 * P1 + D * a2 * P2) = a3 * (a1 * (p * P1) + D * a2 * (p * P2)) := by grind
theorem ringB (u v U1 V3 V1 U3 : Int) : u * v * (U1 * V3 + 1 * V1 * U3) = (u * U1) * (v * V3) + 1 * (v * V1) * (u * U3) := by grind
theorem ringC (a1 a2 a3 b1 b2 b3 c1 c2 c3 D : Int) : a3 * (a1 * (b1 * c3 + 1 * c1 * b3) + D * a2 * (b2 * c3 + 1 * c2 * b3)) = (a1 * b1 + D * a2 * b2) * (a3 * c3) + 1 * (a1 * c1 + D * a2 * c2) * (a3 * b3) := by grind
theorem ringD (a3 p a1 P1 a2 P2 : Int) : a3 * p * (a1 * P2 + a2 * P1) = a3 * (a1 * (p * P2) + a2 * (p * P1)) := by grind
theorem ringE (a1 a2 a3 b1 b2 b3 c1 c2 c3 : Int) : a3 * (a1 * (b2 * c3 + 1 * c2 * b3) + a2 * (b1 * c3 + 1 * c1 * b3)) = (a1 * b2 + a2 * b1) * (a3 * c3) + 1 * (a1 * c2 + a2 * c1) * (a3 * b3) := by grind
theorem ringF (a3 p P3 : Int) : a3 * p * (a3 * P3) = a3 * (a3 * (p * P3)) := by grind
theorem ringG (u v U3 V3 : Int) : u * v * (U3 * V3) = (u * U3) * (v * V3) := by grind
theorem ringH (a3 b3 c3 : Int) : a3 * (a3 * (b3 * c3)) = (a3 * b3) * (a3 * c3) := by grind
theorem ringI (q i T1 b1 D T2 b2 : Int) : q * i * (T1 * b1 + D * T2 * b2) = i * (b1 * (q * T1) + D * b2 * (q * T2)) := by grind
theorem ringJ (i a1 I1 D a2 I2 b1 b2 : Int) : i * (b1 * (a1 * I1 + D * a2 * I2) + D * b2 * (a1 * I2 + a2 * I1)) = b1 * (a1 * (i * I1) + D * a2 * (i * I2)) + D * b2 * (a1 * (i * I2) + a2 * (i * I1)) := by grind
theorem ringK (a1 a2 b1 b2 b3 D : Int) : b1 * (a1 * (b3 * b1) + D * a2 * (-b3 * b2)) + D * b2 * (a1 * (-b3 * b2) + a2 * (b3 * b1)) = b3 * (b1 * b1 - D * b2 * b2) * a1 := by grind
theorem ringL (q i T1 b1 T2 b2 : Int) : q * i * (T1 * b2 + T2 * b1) = i * (b2 * (q * T1) + b1 * (q * T2)) := by grind
theorem ringM (i a1 I1 D a2 I2 b1 b2 : Int) : i * (b2 * (a1 * I1 + D * a2 * I2) + b1 * (a1 * I2 + a2 * I1)) = b2 * (a1 * (i * I1) + D * a2 * (i * I2)) + b1 * (a1 * (i * I2) + a2 * (i * I1)) := by grind
theorem ringN (a1 a2 b1 b2 b3 D : Int) : b2 * (a1 * (b3 * b1) + D * a2 * (-b3 * b2)) + b1 * (a1 * (-b3 * b2) + a2 * (b3 * b1)) = b3 * (b1 * b1 - D * b2 * b2) * a2 := by grind
theorem ringO (q i T3 b3 : Int) : q * i * (T3 * b3) = i * b3 * (q * T3) := by grind
theorem ringP (i a3 I3 b3 : Int) : i * b3 * (a3 * I3) = b3 * (i * I3) * a3 := by grind
theorem ringQ (q i U1 I1 D U2 I2 : Int) : q * i * (U1 * I1 + D * U2 * I2) = (q * U1) * (i * I1) + D * (q * U2) * (i * I2) := by grind
theorem ringR (a1 a2 b1 b2 b3 D : Int) : (a1 * b1 + D * a2 * b2) * (b3 * b1) + D * (a1 * b2 + a2 * b1) * (-b3 * b2) = b3 * (b1 * b1 - D * b2 * b2) * a1 := by grind
theorem ringS (q i U1 I1 U2 I2 : Int) : q * i * (U1 * I2 + U2 * I1) = (q * U1) * (i * I2) + (q * U2) * (i * I1) := by grind
theorem ringT (a1 a2 b1 b2 b3 D : Int) : (a1 * b1 + D * a2 * b2) * (-b3 * b2) + (a1 * b2 + a2 * b1) * (b3 * b1) = b3 * (b1 * b1 - D * b2 * b2) * a2 := by grind
theorem ringU (a3 b3 n : Int) : (a3 * b3) * n = b3 * n * a3 := by grind
/-- the sum's product is the products' sum -/
theorem distrib {D : Int} {a b c : Int × Int × Int} (ha : Good D a) (hb : Good D b) (hc : Good D c) : timesT D a (plusT D 1 b c) = plusT D 1 (timesT D a b) (timesT D a c) := by
  have na := below_ne ha
  have nb := below_ne hb
  have nc := below_ne hc
  have gP : Good D (plusT D 1 b c) := plus_good hb hc
  have gU : Good D (timesT D a b) := times_good ha hb
  have gV : Good D (timesT D a c) := times_good ha hc
  rw [times_red ha gP, plus_red gU gV]
  obtain ⟨p1, p2, p3⟩ := red_mul (x := b.1 * c.2.2 + 1 * c.1 * b.2.2) (y := b.2.1 * c.2.2 + 1 * c.2.1 * b.2.2) (mul_ne nb nc)
  obtain ⟨u1, u2, u3⟩ := red_mul (x := a.1 * b.1 + D * a.2.1 * b.2.1) (y := a.1 * b.2.1 + a.2.1 * b.1) (mul_ne na nb)
  obtain ⟨v1, v2, v3⟩ := red_mul (x := a.1 * c.1 + D * a.2.1 * c.2.1) (y := a.1 * c.2.1 + a.2.1 * c.1) (mul_ne na nc)
  rw [← plus_red hb hc] at p1 p2 p3
  rw [← times_red ha hb] at u1 u2 u3
  rw [← times_red ha hc] at v1 v2 v3
  have sp := lsg_ne (x := b.1 * c.2.2 + 1 * c.1 * b.2.2) (y := b.2.1 * c.2.2 + 1 * c.2.1 * b.2.2) (mul_ne nb nc)
  have su := lsg_ne (x := a.1 * b.1 + D * a.2.1 * b.2.1) (y := a.1 * b.2.1 + a.2.1 * b.1) (mul_ne na nb)
  have sv := lsg_ne (x := a.1 * c.1 + D * a.2.1 * c.2.1) (y := a.1 * c.2.1 + a.2.1 * c.1) (mul_ne na nc)
  have nP := below_ne gP
  have nU := below_ne gU
  have nV := below_ne gV
  generalize lsg (b.1 * c.2.2 + 1 * c.1 * b.2.2) (b.2.1 * c.2.2 + 1 * c.2.1 * b.2.2) (b.2.2 * c.2.2) = p at *
  generalize lsg (a.1 * b.1 + D * a.2.1 * b.2.1) (a.1 * b.2.1 + a.2.1 * b.1) (a.2.2 * b.2.2) = u at *
  generalize lsg (a.1 * c.1 + D * a.2.1 * c.2.1) (a.1 * c.2.1 + a.2.1 * c.1) (a.2.2 * c.2.2) = v at *
  generalize plusT D 1 b c = P at *
  generalize timesT D a b = U at *
  generalize timesT D a c = V at *
  rw [← red_scale (k := a.2.2 * p) (mul_ne na sp) (mul_ne na nP), ← red_scale (k := u * v) (mul_ne su sv) (mul_ne nU nV)]
  have e1 : a.2.2 * p * (a.1 * P.1 + D * a.2.1 * P.2.1) = u * v * (U.1 * V.2.2 + 1 * V.1 * U.2.2) := by rw [ringA, ← p1, ← p2, ringB u v, ← u1, ← v3, ← v1, ← u3, ringC]
  have e2 : a.2.2 * p * (a.1 * P.2.1 + a.2.1 * P.1) = u * v * (U.2.1 * V.2.2 + 1 * V.2.1 * U.2.2) := by rw [ringD, ← p1, ← p2, ringB u v, ← u2, ← v3, ← v2, ← u3, ringE]
  have e3 : a.2.2 * p * (a.2.2 * P.2.2) = u * v * (U.2.2 * V.2.2) := by rw [ringF, ← p3, ringG, ← u3, ← v3, ringH]
  rw [e1, e2, e3]
/-- what is divided by comes back -/
theorem over_times {D : Int} {a b : Int × Int × Int} (h0 : 0 ≤ D) (ha : Good D a) (hb : Good D b) (hz : ¬ (b.1 = 0 ∧ b.2.1 = 0)) : timesT D (timesT D a (invT D b)) b = a := by
  have na := below_ne ha
  have nb := below_ne hb
  have nn := norm_ne h0 hb hz
  have gI := inv_good h0 hb hz
  have gQ : Good D (timesT D a (invT D b)) := times_good ha gI
  rw [times_red gQ hb]
  obtain ⟨i1, i2, i3⟩ := red_mul (x := b.2.2 * b.1) (y := -b.2.2 * b.2.1) nn
  have si := lsg_ne (x := b.2.2 * b.1) (y := -b.2.2 * b.2.1) nn
  rw [← inv_red hb] at i1 i2 i3
  have nI := below_ne gI
  obtain ⟨q1, q2, q3⟩ := red_mul (x := a.1 * (invT D b).1 + D * a.2.1 * (invT D b).2.1) (y := a.1 * (invT D b).2.1 + a.2.1 * (invT D b).1) (mul_ne na nI)
  have sq := lsg_ne (x := a.1 * (invT D b).1 + D * a.2.1 * (invT D b).2.1) (y := a.1 * (invT D b).2.1 + a.2.1 * (invT D b).1) (mul_ne na nI)
  rw [← times_red ha gI] at q1 q2 q3
  have nQ := below_ne gQ
  generalize lsg (a.1 * (invT D b).1 + D * a.2.1 * (invT D b).2.1) (a.1 * (invT D b).2.1 + a.2.1 * (invT D b).1) (a.2.2 * (invT D b).2.2) = q at *
  generalize timesT D a (invT D b) = T at *
  generalize lsg (b.2.2 * b.1) (-b.2.2 * b.2.1) (normT D b) = i at *
  generalize invT D b = I at *
  have hn : normT D b = b.1 * b.1 - D * b.2.1 * b.2.1 := rfl
  generalize normT D b = n at *
  rw [← red_scale (k := q * i) (mul_ne sq si) (mul_ne nQ nb)]
  have e1 : q * i * (T.1 * b.1 + D * T.2.1 * b.2.1) = b.2.2 * n * a.1 := by rw [ringI, ← q1, ← q2, ringJ, ← i1, ← i2, ringK, ← hn]
  have e2 : q * i * (T.1 * b.2.1 + T.2.1 * b.1) = b.2.2 * n * a.2.1 := by rw [ringL, ← q1, ← q2, ringM, ← i1, ← i2, ringN, ← hn]
  have e3 : q * i * (T.2.2 * b.2.2) = b.2.2 * n * a.2.2 := by rw [ringO, ← q3, ringP, ← i3]
  rw [e1, e2, e3, red_scale (mul_ne nb nn) na]
  exact red_self ha.1 ha.2.1
theorem times_over {D : Int} {a b : Int × Int × Int} (h0 : 0 ≤ D) (ha : Good D a) (hb : Good D b) (hz : ¬ (b.1 = 0 ∧ b.2.1 = 0)) : timesT D (timesT D a b) (invT D b) = a := by
  have na := below_ne ha
  have nb := below_ne hb
  have nn := norm_ne h0 hb hz
  have gI := inv_good h0 hb hz
  have gU : Good D (timesT D a b) := times_good ha hb
  rw [times_red gU gI]
  obtain ⟨i1, i2, i3⟩ := red_mul (x := b.2.2 * b.1) (y := -b.2.2 * b.2.1) nn
  have si := lsg_ne (x := b.2.2 * b.1) (y := -b.2.2 * b.2.1) nn
  rw [← inv_red hb] at i1 i2 i3
  have nI := below_ne gI
  obtain ⟨q1, q2, q3⟩ := red_mul (x := a.1 * b.1 + D * a.2.1 * b.2.1) (y := a.1 * b.2.1 + a.2.1 * b.1) (mul_ne na nb)
  have sq := lsg_ne (x := a.1 * b.1 + D * a.2.1 * b.2.1) (y := a.1 * b.2.1 + a.2.1 * b.1) (mul_ne na nb)
  rw [← times_red ha hb] at q1 q2 q3
  have nU := below_ne gU
  generalize lsg (a.1 * b.1 + D * a.2.1 * b.2.1) (a.1 * b.2.1 + a.2.1 * b.1) (a.2.2 * b.2.2) = q at *
  generalize timesT D a b = U at *
  generalize lsg (b.2.2 * b.1) (-b.2.2 * b.2.1) (normT D b) = i at *
  generalize invT D b = I at *
  have hn : normT D b = b.1 * b.1 - D * b.2.1 * b.2.1 := rfl
  generalize normT D b = n at *
  rw [← red_scale (k := q * i) (mul_ne sq si) (mul_ne nU nI)]
  have e1 : q * i * (U.1 * I.1 + D * U.2.1 * I.2.1) = b.2.2 * n * a.1 := by rw [ringQ, ← q1, ← q2, ← i1, ← i2, ringR, ← hn]
  have e2 : q * i * (U.1 * I.2.1 + U.2.1 * I.1) = b.2.2 * n * a.2.1 := by rw [ringS, ← q1, ← q2, ← i1, ← i2, ringT, ← hn]
  have e3 : q * i * (U.2.2 * I.2.2) = b.2.2 * n * a.2.2 := by rw [ringG, ← q3, ← i3, ringU]
  rw [e1, e2, e3, red_scale (mul_ne nb nn) na]
  exact red_self ha.1 ha.2.1
end Kx
namespace Kx
open PySem PySem.Spec PyProof.Rows L2
/-! ### sizes -/
def Sz (n : Nat) (t : Int × Int × Int) : Prop := t.1.natAbs < 2 ^ n ∧ t.2.1.natAbs < 2 ^ n ∧ t.2.2.natAbs < 2 ^ n
theorem up {x n m : Nat} (h : x < 2 ^ n) (l : n ≤ m) : x < 2 ^ m := Nat.lt_of_lt_of_le h (Nat.pow_le_pow_right (by decide) l)
theorem Sz.up {n m : Nat} {t : Int × Int × Int} (h : Sz n t) (l : n ≤ m) : Sz m t := ⟨Kx.up h.1 l, Kx.up h.2.1 l, Kx.up h.2.2 l⟩
theorem sz_add {x y : Int} {k : Nat} (hx : x.natAbs < 2 ^ k) (hy : y.natAbs < 2 ^ k) : (x + y).natAbs < 2 ^ (k + 1) := by
  rw [Nat.pow_succ]
  omega
theorem sz_sub {x y : Int} {k : Nat} (hx : x.natAbs < 2 ^ k) (hy : y.natAbs < 2 ^ k) : (x - y).natAbs < 2 ^ (k + 1) := by
  rw [Nat.pow_succ]
  omega
theorem bnd {x : Int} {n : Nat} (h : x.natAbs < 2 ^ n) (l : n ≤ 2000) : x.natAbs < 2 ^ 2000 := up h l
theorem okm {i j : Int} {n m : Nat} (hi : i.natAbs < 2 ^ n) (hj : j.natAbs < 2 ^ m) (ln : n ≤ 2000) (lm : m ≤ 2000) : IntMulOk i j := by
  have h1 := bnd hi ln
  have h2 := bnd hj lm
  exact cmw (by omega) (by omega) (by omega) (by omega)
theorem red_sz {x y b : Int} {n : Nat} (hb : b ≠ 0) (h1 : x.natAbs < 2 ^ n) (h2 : y.natAbs < 2 ^ n) (h3 : b.natAbs < 2 ^ n) : Sz n (red x y b) := by
  obtain ⟨p, q, r⟩ := red_size (x := x) (y := y) hb
  exact ⟨Nat.lt_of_le_of_lt p h1, Nat.lt_of_le_of_lt q h2, Nat.lt_of_le_of_lt r h3⟩
section
variable {D s : Int} {t u : Int × Int × Int} {n m : Nat}
theorem one_mul_sz {s z : Int} {k : Nat} (hs : s = 1 ∨ s = -1) (hz : z.natAbs < 2 ^ k) : (s * z).natAbs < 2 ^ k := by
  rcases hs with rfl | rfl
  · rw [Int.one_mul]; exact hz
  · rw [Int.neg_mul, Int.one_mul, Int.natAbs_neg]; exact hz
theorem plus_sz (hs : s = 1 ∨ s = -1) (ht : Good D t) (hu : Good D u) (zt : Sz n t) (zu : Sz m u) : Sz (n + m + 1) (plusT D s t u) := by
  rw [plus_red ht hu]
  refine red_sz (mul_ne (below_ne ht) (below_ne hu)) (sz_add (wide_lt zt.1 zu.2.2) ?_) (sz_add (wide_lt zt.2.1 zu.2.2) ?_) (Kx.up (wide_lt zt.2.2 zu.2.2) (by omega))
  · rw [Nat.add_comm n m]; exact wide_lt (one_mul_sz hs zu.1) zt.2.2
  · rw [Nat.add_comm n m]; exact wide_lt (one_mul_sz hs zu.2.1) zt.2.2
theorem dmul_sz {k : Nat} (h0 : D.natAbs < 2 ^ 200) {x y : Int} (hx : x.natAbs < 2 ^ n) (hy : y.natAbs < 2 ^ m) (l : 200 + n + m ≤ k) : (D * x * y).natAbs < 2 ^ k := Kx.up (wide_lt (wide_lt h0 hx) hy) l
theorem times_sz (h0 : D.natAbs < 2 ^ 200) (ht : Good D t) (hu : Good D u) (zt : Sz n t) (zu : Sz m u) : Sz (n + m + 201) (timesT D t u) := by
  rw [times_red ht hu]
  refine red_sz (mul_ne (below_ne ht) (below_ne hu)) (sz_add (Kx.up (wide_lt zt.1 zu.1) (by omega)) (dmul_sz h0 zt.2.1 zu.2.1 (by omega))) (Kx.up (sz_add (wide_lt zt.1 zu.2.1) (wide_lt zt.2.1 zu.1)) (by omega)) (Kx.up (wide_lt zt.2.2 zu.2.2) (by omega))
theorem norm_sz (h0 : D.natAbs < 2 ^ 200) (zu : Sz m u) : (normT D u).natAbs < 2 ^ (2 * m + 201) := by
  unfold normT
  exact sz_sub (Kx.up (wide_lt zu.1 zu.1) (by omega)) (dmul_sz h0 zu.2.1 zu.2.1 (by omega))
theorem inv_sz (h0 : 0 ≤ D) (h1 : D.natAbs < 2 ^ 200) (hu : Good D u) (hz : ¬ (u.1 = 0 ∧ u.2.1 = 0)) (zu : Sz m u) : Sz (2 * m + 201) (invT D u) := by
  rw [inv_red hu]
  have hn : (-u.2.2).natAbs < 2 ^ m := by rw [Int.natAbs_neg]; exact zu.2.2
  exact red_sz (norm_ne h0 hu hz) (Kx.up (wide_lt zu.2.2 zu.1) (by omega)) (Kx.up (wide_lt hn zu.2.1) (by omega)) (norm_sz h1 zu)
end
/-! ### promises -/
def spReduced : Sp := fun vs H Q _ => ∃ D x y b : Int, vs = [.int D, .int x, .int y, .int b] ∧ 0 ≤ D ∧ D < 2 ^ 1000 ∧ x.natAbs < 2 ^ 2000 ∧ y.natAbs < 2 ^ 2000 ∧ b.natAbs < 2 ^ 2000 ∧ b ≠ 0 ∧ ∀ (p : Addr) (H' : Hp), H p = none → Same H H' → H' p = some (.tup (rootV (least D x y b))) → Q (.ref p) H'
/-- two root numbers at hand -/
structure Two (D : Int) (H : Hp) (a b : Addr) (t u : Int × Int × Int) (n m : Nat) : Prop where
  M : Meas D
  lt : D < 2 ^ 200
  ra : RootAt D H a t
  rb : RootAt D H b u
  za : Sz n t
  zb : Sz m u
theorem Two.same {D : Int} {H H' : Hp} {a b : Addr} {t u : Int × Int × Int} {n m : Nat} (h : Two D H a b t u n m) (s : Same H H') : Two D H' a b t u n m := ⟨h.M, h.lt, h.ra.same s, h.rb.same s, h.za, h.zb⟩
theorem Two.dn {D : Int} {H : Hp} {a b : Addr} {t u : Int × Int × Int} {n m : Nat} (h : Two D H a b t u n m) : 0 ≤ D ∧ D.natAbs < 2 ^ 200 := by
  have h1 := h.M.1
  have h2 := h.lt
  constructor <;> omega
def spTotal : Sp := fun vs H Q _ => ∃ (D s : Int) (a b : Addr) (t u : Int × Int × Int) (n m : Nat), vs = [.int D, .ref a, .ref b, .int s] ∧ (s = 1 ∨ s = -1) ∧ Two D H a b t u n m ∧ n + m ≤ 1700 ∧ ∀ (p : Addr) (H' : Hp), H p = none → Same H H' → RootAt D H' p (plusT D s t u) → Q (.ref p) H'
def spPlus (s : Int) : Sp := fun vs H Q _ => ∃ (D : Int) (a b : Addr) (t u : Int × Int × Int) (n m : Nat), vs = [.int D, .ref a, .ref b] ∧ Two D H a b t u n m ∧ n + m ≤ 1700 ∧ ∀ (p : Addr) (H' : Hp), H p = none → Same H H' → RootAt D H' p (plusT D s t u) → Q (.ref p) H'
def spTimes : Sp := fun vs H Q _ => ∃ (D : Int) (a b : Addr) (t u : Int × Int × Int) (n m : Nat), vs = [.int D, .ref a, .ref b] ∧ Two D H a b t u n m ∧ n + m ≤ 1700 ∧ ∀ (p : Addr) (H' : Hp), H p = none → Same H H' → RootAt D H' p (timesT D t u) → Q (.ref p) H'
def spOver : Sp := fun vs H Q _ => ∃ (D : Int) (a b : Addr) (t u : Int × Int × Int) (n m : Nat), vs = [.int D, .ref a, .ref b] ∧ Two D H a b t u n m ∧ n + 2 * m ≤ 1450 ∧ ¬ (u.1 = 0 ∧ u.2.1 = 0) ∧ ∀ (p : Addr) (H' : Hp), H p = none → Same H H' → RootAt D H' p (timesT D t (invT D u)) → Q (.ref p) H'
/-- the law's own sums: with the sign as the last argument -/
def spLawPlus : Sp := spTotal
/-! ### repr -/
mutual
def cost : PyData → Nat
  | .none => 4
  | .bool _ => 5
  | .int _ => 1925
  | .str x => (reprText x).length
  | .list xs => costAll xs + 3
  | .tuple xs => costAll xs + 3
  | .dict _ => 0
def costAll : List PyData → Nat
  | [] => 0
  | x :: xs => cost x + 2 + costAll xs
end
theorem listText_le : ∀ ts : List Str, (listText ts).length ≤ piled ts + 3
  | [] => by decide
  | t :: ts => by
    unfold listText
    show (textFrom 1 (("[" : Str) ++ t) ts ++ ("]" : Str)).length ≤ _
    have h := textFrom_length_pos ts 1 (("[" : Str) ++ t) (by decide)
    have e1 : ∀ a b : Str, (a ++ b).length = a.length + b.length := fun a b => Str.length_append a b
    rw [e1, h, e1, piled_cons]
    have e2 : ("[" : Str).length = 1 := by decide
    have e3 : ("]" : Str).length = 1 := by decide
    omega
theorem tupleText_le (ts : List Str) : (tupleText ts).length ≤ piled ts + 3 := by
  unfold tupleText
  have e1 : ∀ a b : Str, (a ++ b).length = a.length + b.length := fun a b => Str.length_append a b
  rw [e1, e1]
  have e2 : ("(" : Str).length = 1 := by decide
  have hj : (Str.join ", " ts).length ≤ piled ts := by
    cases ts with
    | nil => decide
    | cons t r =>
      have := join_length_add (t :: r) (by simp)
      omega
  have e3 : ∀ c : Bool, ((if c then ",)" else ")" : String) : Str).length ≤ 2 := fun c => by cases c <;> decide
  have := e3 (ts.length == 1)
  omega
mutual
theorem cost_ok : ∀ d : PyData, d.showable = true → d.hasDict = false → d.shown.length ≤ cost d
  | .none, _, _ => by simp only [PyData.shown, cost]; decide
  | .bool b, _, _ => by cases b <;> simp only [PyData.shown, cost] <;> decide
  | .int i, h, _ => by
    simp only [PyData.shown, cost]
    have h2 : i.natAbs.log2 < 1920 := by simpa [PyData.showable] using h
    exact Nat.le_trans (int_text_len_1921 h2) (by decide)
  | .str x, _, _ => by simp only [PyData.shown, cost]; exact Nat.le_refl _
  | .list xs, h, hd => by
    simp only [PyData.shown, cost]
    have := costAll_ok xs (by simpa [PyData.showable] using h) (by simpa [PyData.hasDict] using hd)
    have := listText_le (PyData.shownAll xs)
    omega
  | .tuple xs, h, hd => by
    simp only [PyData.shown, cost]
    have := costAll_ok xs (by simpa [PyData.showable] using h) (by simpa [PyData.hasDict] using hd)
    have := tupleText_le (PyData.shownAll xs)
    omega
  | .dict _, _, h => by simp [PyData.hasDict] at h
theorem costAll_ok : ∀ ds : List PyData, PyData.showableAll ds = true → PyData.hasDictAll ds = false → piled (PyData.shownAll ds) ≤ costAll ds
  | [], _, _ => by simp only [PyData.shownAll, costAll]; decide
  | d :: ds, h, hd => by
    have h1 : d.showable = true ∧ PyData.showableAll ds = true := by simpa [PyData.showableAll] using h
    have h2 : d.hasDict = false ∧ PyData.hasDictAll ds = false := by simpa [PyData.hasDictAll] using hd
    simp only [PyData.shownAll, costAll, piled_cons]
    have := cost_ok d h1.1 h2.1
    have := costAll_ok ds h1.2 h2.2
    omega
end
/-- data whose repr may be asked for -/
structure Rp (K : PySem.W.Frag) (H : Hp) (x : V) (d : PyData) : Prop where
  dp : Dp K H x d
  sh : d.showable = true
  nd : d.hasDict = false
  de : d.depth ≤ 60
  co : cost d ≤ 16000000
theorem cr_reprR {X : Cx} (gd : X.A.guards = some []) (hu : X.A.units + 64 < cLine) : CallR X (.builtin "repr") (fun vs H Q => ∃ (x : V) (d : PyData), vs = [x] ∧ Rp X.K H x d ∧ Q (.str d.shown) H) := by
  intro pins s σ H vs us Q I r h
  obtain ⟨x, d, e, R, q⟩ := h
  exact cr_reprD gd hu pins s σ H vs us Q I r ⟨x, d, e, R.dp, R.sh, R.nd, R.de, Nat.le_trans (cost_ok d R.sh R.nd) (Nat.le_trans R.co (by decide)), q⟩
def rootD (t : Int × Int × Int) : PyData := .tuple [.int t.1, .int t.2.1, .int t.2.2]
theorem dp_root {K : PySem.W.Frag} {H : Hp} {a : Addr} {t : Int × Int × Int} (h : H a = some (.tup (rootV t))) : Dp K H (.ref a) (rootD t) := .tup (SqT.of h) (.cons (.int _) (.cons (.int _) (.cons (.int _) .nil)))
theorem log_sz {x : Int} {n : Nat} (h : x.natAbs < 2 ^ n) (l : n ≤ 1900) : x.natAbs.log2 < 1920 := Nat.lt_of_lt_of_le (PySem.Flt.log2_lt_of (by decide) (up h l)) (by decide)
theorem root_show {t : Int × Int × Int} {n : Nat} (z : Sz n t) (l : n ≤ 1900) : (rootD t).showable = true := by
  simp only [rootD, PyData.showable, PyData.showableAll, log_sz z.1 l, log_sz z.2.1 l, log_sz z.2.2 l, decide_true, Bool.and_self]
theorem shaped_root (t : Int × Int × Int) : SeqAt.shaped (rootD t) = true := rfl
theorem ne_roots {K : PySem.W.Frag} {H : Hp} {a b : Addr} {t u : Int × Int × Int} {Q : VK} (h1 : H a = some (.tup (rootV t))) (h2 : H b = some (.tup (rootV u))) (e : t = u) (q : Q (.bl false) H) : rNeD K (.ref a) (.ref b) H Q := by
  subst e
  exact ⟨_, _, dp_root h1, dp_root h2, rfl, rfl, by rw [eqv_same rfl]; exact q⟩
theorem eq_roots {K : PySem.W.Frag} {H : Hp} {a b : Addr} {t u : Int × Int × Int} {Q : VK} (h1 : H a = some (.tup (rootV t))) (h2 : H b = some (.tup (rootV u))) (e : t = u) (q : Q (.bl true) H) : rEqD K (.ref a) (.ref b) H Q := by
  subst e
  exact ⟨_, _, dp_root h1, dp_root h2, rfl, rfl, by rw [eqv_same rfl]; exact q⟩
theorem rp_roots3 {K : PySem.W.Frag} {H : Hp} {L a b c : Addr} {t u v : Int × Int × Int} {n m l : Nat} (hL : H L = some (.lst [.ref a, .ref b, .ref c])) (h1 : H a = some (.tup (rootV t))) (h2 : H b = some (.tup (rootV u))) (h3 : H c = some (.tup (rootV v)))
    (z1 : Sz n t) (z2 : Sz m u) (z3 : Sz l v) (l1 : n ≤ 1900) (l2 : m ≤ 1900) (l3 : l ≤ 1900) : Rp K H (.ref L) (.list [rootD t, rootD u, rootD v]) where
  dp := .lst (SqL.of hL) (.cons (dp_root h1) (.cons (dp_root h2) (.cons (dp_root h3) .nil)))
  sh := by
    show (PyData.showableAll [rootD t, rootD u, rootD v]) = true
    simp only [PyData.showableAll, root_show z1 l1, root_show z2 l2, root_show z3 l3, Bool.and_self]
  nd := rfl
  de := Nat.le_of_ble_eq_true rfl
  co := Nat.le_of_ble_eq_true rfl
theorem GenAt.ne {H : Hp} {g a : Addr} {k : Nat} (G : GenAt H g k) {xs : List V} (h : H a = some (.tup xs)) : a ≠ g := fun z => by
  obtain ⟨_, _, _, e, _⟩ := G
  rw [z, e] at h
  cases h
theorem GenAt.nn {H : Hp} {g a : Addr} {k : Nat} (G : GenAt H g k) (h : H a = none) : a ≠ g := fun z => by
  obtain ⟨_, _, _, e, _⟩ := G
  rw [z, e] at h
  cases h
theorem GenAt.upd {H : Hp} {g d : Addr} {k : Nat} {o : HO} (G : GenAt H g k) (h : d ≠ g) : GenAt (L2.upd H d o) g k := by
  obtain ⟨a, b, c, e, r⟩ := G
  exact ⟨a, b, c, by rw [upd_ne (Ne.symm h)]; exact e, r⟩
theorem Keep.root {D : Int} {H H' : Hp} {g a : Addr} {k : Nat} {t : Int × Int × Int} (s : Keep g H H') (G : GenAt H g k) (r : RootAt D H a t) : RootAt D H' a t := ⟨s _ _ (G.ne r.1) r.1, r.2⟩
theorem RootAt.upd {D : Int} {H : Hp} {d a : Addr} {t : Int × Int × Int} {xs : List V} {o : HO} (r : RootAt D H a t) (h : H d = some (.lst xs)) : RootAt D (L2.upd H d o) a t := by
  refine ⟨?_, r.2⟩
  rw [upd_ne (fun z => ?_)]
  · exact r.1
  · have := r.1
    rw [z, h] at this
    cases this
theorem Keep.upd {H H' : Hp} {g d : Addr} {o : HO} (s : Keep g H H') (h : H d = none) : Keep g H (L2.upd H' d o) := fun b u hb e => by
  rw [upd_ne (ne_of_none e h)]
  exact s b u hb e
theorem rt_half {D : Int} (h0 : 0 ≤ D) (h1 : D < 2 ^ 200) : rt D < 2 ^ 100 := by
  obtain ⟨s0, s1, s2⟩ := rt_spec h0
  by_cases h : rt D < 2 ^ 100
  · exact h
  · have := sq_mono (x := 2 ^ 100) (y := rt D) (by decide) (by omega)
    omega
theorem least_sz {D x y b : Int} (h0 : 0 ≤ D) (h1 : D < 2 ^ 200) (hx : x.natAbs < 2 ^ 150) (hy : y.natAbs < 2 ^ 150) (hb : b.natAbs < 2 ^ 150) (hb0 : b ≠ 0) : Sz 251 (least D x y b) := by
  obtain ⟨r0, r1⟩ := rt_le h0
  have r2 := rt_half h0 h1
  have w1 : (y * rt D).natAbs < 2 ^ (150 + 100) := wide_lt hy (by omega)
  simp only [Nat.reduceAdd] at w1
  unfold least
  split
  · exact red_sz hb0 (sz_add (up hx (by decide)) w1) (by decide) (up hb (by decide))
  · exact red_sz hb0 (up hx (by decide)) (up hy (by decide)) (up hb (by decide))
theorem Good.le {D : Int} {t : Int × Int × Int} (h : Good D t) : t = least D t.1 t.2.1 t.2.2 := (least_self h).symm
theorem two_new {D : Int} {H : Hp} {p q : Addr} {t u : Int × Int × Int} (M : Meas D) (l : D < 2 ^ 200) (n1 : H p = none) (n2 : L2.upd H p (.tup (rootV t)) q = none) (gt : Good D t) (gu : Good D u) (zt : Sz 10 t) (zu : Sz 10 u) :
    Two D (L2.upd (L2.upd H p (.tup (rootV t))) q (.tup (rootV u))) p q t u 10 10 :=
  ⟨M, l, ⟨by rw [upd_ne (ne_new n2)]; exact upd_same, gt⟩, ⟨upd_same, gu⟩, zt, zu⟩
end Kx

set_option Elab.async false
set_option linter.all false
set_option maxRecDepth 100000
set_option maxHeartbeats 4000000
set_option exponentiation.threshold 4000
/-! Odd values: what they are, and that they stay. -/
namespace Kx
open PySem PySem.Spec PyProof.Rows L2
mutual
theorem dp_same {K : PySem.W.Frag} {H H' : Hp} (s : Same H H') : ∀ (d : PyData) (v : V), Dp K H v d → Dp K H' v d
  | .none, _, h => by cases h; exact .non
  | .bool _, _, h => by cases h; exact .bl _
  | .int _, _, h => by cases h; exact .int _
  | .str _, _, h => by cases h; exact .str _
  | .list ds, _, h => by
    cases h with
    | lst q r => exact .lst (SqL.ext q s) (dpAll_same s ds _ r)
  | .tuple ds, _, h => by
    cases h with
    | tup q r => exact .tup (SqT.ext q s) (dpAll_same s ds _ r)
  | .dict _, _, h => by cases h
theorem dpAll_same {K : PySem.W.Frag} {H H' : Hp} (s : Same H H') : ∀ (ds : List PyData) (vs : List V), DpAll K H vs ds → DpAll K H' vs ds
  | [], _, h => by cases h; exact .nil
  | d :: ds, _, h => by
    cases h with
    | cons q r => exact .cons (dp_same s d _ q) (dpAll_same s ds _ r)
end
theorem Rp.same {K : PySem.W.Frag} {H H' : Hp} {x : V} {d : PyData} (h : Rp K H x d) (s : Same H H') : Rp K H' x d := ⟨dp_same s _ _ h.dp, h.sh, h.nd, h.de, h.co⟩
theorem OkItem.at {H : Hp} {a : Addr} (h : OkItem H (.ref a)) : ∃ o, H a = some o := by
  obtain ⟨t, ht⟩ := h
  have h2 : (match H a with | some (.lst _) => some "list" | some (.tup _) => some "tuple" | some (.dK _) => some "dict" | _ => none) = some t := ht
  cases e : H a with
  | none => rw [e] at h2; cases h2
  | some o => exact ⟨o, rfl⟩
theorem OkV.same {H H' : Hp} {x : V} (h : OkV H x) (s : Same H H') : OkV H' x := by
  refine ⟨h.1.same s, fun a xs e1 e2 y hy => ?_⟩
  subst e1
  obtain ⟨o, ho⟩ := h.1.at
  have := s _ _ ho
  rw [e2] at this
  cases this
  exact (h.2 a xs rfl ho y hy).same s
def Flat (d : PyData) : Prop := d.canLay0 = true ∧ d.depth ≤ 20
theorem flat_lay : ∀ {ds : List PyData}, (∀ d ∈ ds, Flat d) → PyData.canLayAll0 ds = true ∧ PyData.depthAll ds ≤ 20
  | [], _ => ⟨rfl, by simp only [PyData.depthAll]; omega⟩
  | d :: ds, h => by
    obtain ⟨h1, h2⟩ := h d (List.mem_cons_self ..)
    obtain ⟨h3, h4⟩ := flat_lay (ds := ds) fun e he => h e (List.mem_cons_of_mem _ he)
    refine ⟨?_, ?_⟩
    · simp only [PyData.canLayAll0, h1, h3, Bool.and_self]
    · simp only [PyData.depthAll]
      omega
theorem flat_shaped {ds : List PyData} (h : ∀ d ∈ ds, Flat d) : SeqAt.shaped (.list ds) = true := by
  obtain ⟨h1, h2⟩ := flat_lay h
  have e1 : PyData.canLay0 (.list ds) = true := by simp only [PyData.canLay0]; exact h1
  have e2 : PyData.depth (.list ds) ≤ 64 := by simp only [PyData.depth]; omega
  unfold SeqAt.shaped
  rw [e1, decide_eq_true e2]
  rfl
theorem dp_filter {K : PySem.W.Frag} {H : Hp} {f : V → Bool} : ∀ {xs : List V} {ds : List PyData}, DpAll K H xs ds → (∀ d ∈ ds, Flat d) → ∃ es, DpAll K H (xs.filter f) es ∧ ∀ d ∈ es, Flat d
  | [], _, _, _ => ⟨[], .nil, fun d hd => absurd hd List.not_mem_nil⟩
  | x :: xs, _, h, hf => by
    cases h with
    | @cons _ _ d ds q r =>
      obtain ⟨es, h1, h2⟩ := dp_filter (f := f) r fun e he => hf e (List.mem_cons_of_mem _ he)
      cases hx : f x with
      | true =>
        rw [List.filter_cons_of_pos hx]
        refine ⟨d :: es, .cons q h1, fun e he => ?_⟩
        rcases List.mem_cons.mp he with rfl | he
        · exact hf e (List.mem_cons_self ..)
        · exact h2 e he
      | false =>
        rw [List.filter_cons_of_neg (by rw [hx]; decide)]
        exact ⟨es, h1, h2⟩
theorem dpAll_nil {K : PySem.W.Frag} {H : Hp} {xs : List V} {ds : List PyData} (h : DpAll K H xs ds) : xs.isEmpty = ds.isEmpty := by
  cases h <;> rfl
/-- a value that is asked for, with its data -/
structure Val (K : PySem.W.Frag) (H : Hp) (x : V) (d : PyData) : Prop where
  rp : Rp K H x d
  ok : OkV H x
  it : ∀ a xs, x = .ref a → H a = some (.tup xs) → ∃ ds, DpAll K H xs ds ∧ ∀ d ∈ ds, Flat d
theorem Val.same {K : PySem.W.Frag} {H H' : Hp} {x : V} {d : PyData} (h : Val K H x d) (s : Same H H') : Val K H' x d := by
  refine ⟨h.rp.same s, h.ok.same s, fun a xs e1 e2 => ?_⟩
  subst e1
  obtain ⟨o, ho⟩ := h.ok.1.at
  have := s _ _ ho
  rw [e2] at this
  cases this
  obtain ⟨ds, h1, h2⟩ := h.it a xs rfl ho
  exact ⟨ds, dpAll_same s _ _ h1, h2⟩
theorem all_filter (f : V → Bool) : ∀ xs : List V, (xs.filter fun x => !f x).isEmpty = xs.all f
  | [] => rfl
  | x :: xs => by
    cases h : f x with
    | true => rw [List.filter_cons_of_neg (by rw [h]; decide), List.all_cons, h, Bool.true_and, all_filter f xs]
    | false => rw [List.filter_cons_of_pos (by rw [h]; rfl), List.all_cons, h]; rfl
theorem eqv_nil (es : List PyData) : PyData.eqv (.list es) (.list []) = es.isEmpty := by cases es <;> rfl
/-- a list that holds what is not let is empty exactly if all is let -/
theorem ne_empty {K : PySem.W.Frag} {H : Hp} {L E : Addr} {xs : List V} {ds : List PyData} {f : V → Bool} {Q : VK} (hL : H L = some (.lst (xs.filter fun x => !f x))) (hE : H E = some (.lst [])) (hd : DpAll K H xs ds) (hf : ∀ d ∈ ds, Flat d) (q : Q (.bl (!xs.all f)) H) : rNeD K (.ref L) (.ref E) H Q := by
  obtain ⟨es, h1, h2⟩ := dp_filter (f := fun x => !f x) hd hf
  refine ⟨.list es, .list [], .lst (SqL.of hL) h1, .lst (SqL.of hE) .nil, flat_shaped h2, rfl, ?_⟩
  rw [eqv_nil, ← dpAll_nil h1, all_filter]
  exact q
def spLawIsRoot (K : PySem.W.Frag) : Sp := fun vs H Q _ => ∃ (D : Int) (x : V) (d : PyData), vs = [.int D, x] ∧ 0 ≤ D ∧ D < 2 ^ 2000 ∧ Val K H x d ∧ ∀ H', Same H H' → Q (.bl (rootB D H x)) H'
def spIsRoot : Sp := fun vs H Q _ => ∃ (D : Int) (x : V), vs = [.int D, x] ∧ Meas D ∧ D < 2 ^ 2000 ∧ OkV H x ∧ ∀ H', Same H H' → Q (.bl (rootB D H x)) H'
/-- where all three are numbers, the last one not 0 -/
def spRootNumber0 : Sp := fun vs H Q _ => ∃ D x y b : Int, vs = [.int D, .int x, .int y, .int b] ∧ Meas D ∧ D < 2 ^ 1000 ∧ x.natAbs < 2 ^ 2000 ∧ y.natAbs < 2 ^ 2000 ∧ b.natAbs < 2 ^ 2000 ∧ b ≠ 0 ∧ ∀ (p : Addr) (H' : Hp), H p = none → Same H H' → H' p = some (.tup (rootV (least D x y b))) → Q (.ref p) H'
/-! ### values made of plain items -/
structure It (K : PySem.W.Frag) (H : Hp) (v : V) (d : PyData) : Prop where
  dp : Dp K H v d
  sh : d.showable = true
  nd : d.hasDict = false
  de : d.depth ≤ 10
  co : cost d ≤ 100000
  la : d.canLay0 = true
  ok : OkItem H v
inductive ItAll (K : PySem.W.Frag) (H : Hp) : List V → List PyData → Prop
  | nil : ItAll K H [] []
  | cons {v : V} {d : PyData} {vs : List V} {ds : List PyData} : It K H v d → ItAll K H vs ds → ItAll K H (v :: vs) (d :: ds)
section
variable {K : PySem.W.Frag} {H : Hp}
theorem It.int {i : Int} {n : Nat} (h : i.natAbs < 2 ^ n) (l : n ≤ 1900) : It K H (.int i) (.int i) :=
  ⟨.int i, by simp only [PyData.showable, log_sz h l, decide_true], rfl, Nat.le_of_ble_eq_true rfl, Nat.le_of_ble_eq_true rfl, rfl, ⟨"int", rfl⟩⟩
theorem It.bl {b : Bool} : It K H (.bl b) (.bool b) := ⟨.bl b, rfl, rfl, Nat.le_of_ble_eq_true rfl, Nat.le_of_ble_eq_true rfl, rfl, ⟨"bool", rfl⟩⟩
theorem It.non : It K H .non .none := ⟨.non, rfl, rfl, Nat.le_of_ble_eq_true rfl, Nat.le_of_ble_eq_true rfl, rfl, ⟨"NoneType", rfl⟩⟩
theorem It.str {x : Str} (h1 : (PyData.str x).showable = true) (h2 : cost (.str x) ≤ 100000) (h3 : (PyData.str x).canLay0 = true) : It K H (.str x) (.str x) := ⟨.str x, h1, rfl, Nat.le_of_ble_eq_true rfl, h2, h3, ⟨"str", rfl⟩⟩
theorem itAll_facts : ∀ {vs : List V} {ds : List PyData}, ItAll K H vs ds → DpAll K H vs ds ∧ PyData.showableAll ds = true ∧ PyData.hasDictAll ds = false ∧ PyData.depthAll ds ≤ 10 ∧ costAll ds ≤ 100002 * vs.length ∧ PyData.canLayAll0 ds = true ∧ (∀ v ∈ vs, OkItem H v) ∧ ∀ d ∈ ds, Flat d
  | [], _, h => by
    cases h
    exact ⟨.nil, rfl, rfl, by simp only [PyData.depthAll]; omega, by simp only [costAll]; omega, rfl, fun v hv => absurd hv List.not_mem_nil, fun v hv => absurd hv List.not_mem_nil⟩
  | v :: vs, _, h => by
    cases h with
    | cons q r =>
      obtain ⟨h1, h2, h3, h4, h5, h6, h7, h8⟩ := itAll_facts r
      have a1 := q.de
      have a2 := q.co
      refine ⟨.cons q.dp h1, ?_, ?_, ?_, ?_, ?_, ?_, ?_⟩
      · simp only [PyData.showableAll, q.sh, h2, Bool.and_self]
      · simp only [PyData.hasDictAll, q.nd, h3, Bool.or_self]
      · simp only [PyData.depthAll]; omega
      · simp only [costAll, List.length_cons]; omega
      · simp only [PyData.canLayAll0, q.la, h6, Bool.and_self]
      · intro x hx
        rcases List.mem_cons.mp hx with rfl | hx
        · exact q.ok
        · exact h7 x hx
      · intro x hx
        rcases List.mem_cons.mp hx with rfl | hx
        · exact ⟨q.la, by omega⟩
        · exact h8 x hx
theorem val_tup {p : Addr} {xs : List V} {ds : List PyData} (h : H p = some (.tup xs)) (hi : ItAll K H xs ds) (hl : xs.length ≤ 100) : Val K H (.ref p) (.tuple ds) := by
  obtain ⟨h1, h2, h3, h4, h5, h6, h7, h8⟩ := itAll_facts hi
  refine ⟨⟨.tup (SqT.of h) h1, ?_, ?_, ?_, ?_⟩, ⟨⟨"tuple", tyS_tup h⟩, fun a ys e1 e2 y hy => ?_⟩, fun a ys e1 e2 => ?_⟩
  · simp only [PyData.showable]; exact h2
  · simp only [PyData.hasDict]; exact h3
  · simp only [PyData.depth]; omega
  · simp only [cost]; omega
  · cases e1
    rw [h] at e2
    cases e2
    exact h7 y hy
  · cases e1
    rw [h] at e2
    cases e2
    exact ⟨ds, h1, h8⟩
theorem tyS_lst {a : Addr} {xs : List V} (h : H a = some (.lst xs)) : tyS H (.ref a) = some "list" := by
  show (match H a with | some (.lst _) => some "list" | some (.tup _) => some "tuple" | some (.dK _) => some "dict" | _ => none) = some "list"
  rw [h]
theorem val_lst {p : Addr} {xs : List V} {ds : List PyData} (h : H p = some (.lst xs)) (hi : ItAll K H xs ds) (hl : xs.length ≤ 100) : Val K H (.ref p) (.list ds) := by
  obtain ⟨h1, h2, h3, h4, h5, h6, h7, h8⟩ := itAll_facts hi
  refine ⟨⟨.lst (SqL.of h) h1, ?_, ?_, ?_, ?_⟩, ⟨⟨"list", tyS_lst h⟩, fun a ys e1 e2 y hy => ?_⟩, fun a ys e1 e2 => ?_⟩
  · simp only [PyData.showable]; exact h2
  · simp only [PyData.hasDict]; exact h3
  · simp only [PyData.depth]; omega
  · simp only [cost]; omega
  · cases e1
    rw [h] at e2
    cases e2
  · cases e1
    rw [h] at e2
    cases e2
/-- a list of one int as an item -/
theorem It.lst1 {p : Addr} {i : Int} {n : Nat} (h : H p = some (.lst [.int i])) (hi : i.natAbs < 2 ^ n) (l : n ≤ 1900) : It K H (.ref p) (.list [.int i]) :=
  ⟨.lst (SqL.of h) (.cons (.int _) .nil), by simp only [PyData.showable, PyData.showableAll, log_sz hi l, decide_true, Bool.and_self], rfl, Nat.le_of_ble_eq_true rfl, Nat.le_of_ble_eq_true rfl, rfl, ⟨"list", tyS_lst h⟩⟩
theorem val_root {D : Int} {p : Addr} {t : Int × Int × Int} {n : Nat} (h : RootAt D H p t) (z : Sz n t) (l : n ≤ 1900) : Val K H (.ref p) (rootD t) := val_tup h.1 (.cons (.int z.1 l) (.cons (.int z.2.1 l) (.cons (.int z.2.2 l) .nil))) (Nat.le_of_ble_eq_true rfl)
end
theorem wholesB_same {H H' : Hp} {m : Int} {x : V} (s : Same H H') (h : OkItem H x) : wholesB H' m x = wholesB H m x := by
  cases x with
  | ref a =>
    obtain ⟨o, ho⟩ := h.at
    unfold wholesB
    simp only [ho, s _ _ ho]
  | _ => rfl
theorem rootB_same {D : Int} {H H' : Hp} {x : V} (s : Same H H') (h : OkItem H x) : rootB D H' x = rootB D H x := by
  unfold rootB
  rw [wholesB_same s h]
  cases x with
  | ref a =>
    obtain ⟨o, ho⟩ := h.at
    simp only [ho, s _ _ ho]
  | _ => rfl
theorem rp_bl {K : PySem.W.Frag} {H : Hp} {b : Bool} : Rp K H (.bl b) (.bool b) := ⟨.bl b, rfl, rfl, Nat.le_of_ble_eq_true rfl, Nat.le_of_ble_eq_true rfl⟩
theorem rp_root {K : PySem.W.Frag} {D : Int} {H : Hp} {a : Addr} {t : Int × Int × Int} {n : Nat} (h : RootAt D H a t) (z : Sz n t) (l : n ≤ 1900) : Rp K H (.ref a) (rootD t) := (val_root h z l).rp
theorem okV_of {H : Hp} {x : V} {t : String} (h : tyS H x = some t) (hn : t ≠ "tuple") : OkV H x := ⟨⟨t, h⟩, fun a xs e1 e2 => by
  subst e1
  rw [tyS_tup e2] at h
  exact absurd (Option.some.inj h).symm hn⟩
theorem okV_tup0 {H : Hp} {a : Addr} (h : H a = some (.tup [])) : OkV H (.ref a) := ⟨⟨"tuple", tyS_tup h⟩, fun b xs e1 e2 y hy => by
  cases e1
  rw [h] at e2
  cases e2
  exact absurd hy List.not_mem_nil⟩
theorem tyS_dK {H : Hp} {a : Addr} {kvs : List (Key × V)} (h : H a = some (.dK kvs)) : tyS H (.ref a) = some "dict" := by
  show (match H a with | some (.lst _) => some "list" | some (.tup _) => some "tuple" | some (.dK _) => some "dict" | _ => none) = some "dict"
  rw [h]
theorem rootB_of {D : Int} {H : Hp} {x : V} {t : String} (h : tyS H x = some t) (hn : t ≠ "tuple") : rootB D H x = false := rootB_not (wholes_not h hn)
theorem rootB_tup0 {D : Int} {H : Hp} {a : Addr} (h : H a = some (.tup [])) : rootB D H (.ref a) = false := rootB_not (by rw [wholes_tup h]; rfl)
/-- the empty list beside the empty list -/
theorem ne_nil {K : PySem.W.Frag} {H : Hp} {a b : Addr} {Q : VK} (h1 : H a = some (.lst [])) (h2 : H b = some (.lst [])) (q : Q (.bl false) H) : rNeD K (.ref a) (.ref b) H Q :=
  ⟨.list [], .list [], .lst (SqL.of h1) .nil, .lst (SqL.of h2) .nil, rfl, rfl, q⟩
/-! rules that name the frame themselves, for comprehensions -/
section
variable {X : Cx} {K : PySem.W.Frag}
theorem call_isiK (h : X.K = K) : CallR X (.builtin "isinstance") (rIsi K) := h ▸ call_isi
theorem op_neDK (h : X.K = K) (hu : X.A.units + 64 < cLine) : OpR X (compareOp .NotEq) (rNeD K) := h ▸ op_neD hu
theorem op_eqDK (h : X.K = K) (hu : X.A.units + 64 < cLine) : OpR X (compareOp .Eq) (rEqD K) := h ▸ op_eqD hu
theorem sl_tupK (h : X.K = K) : SlR X (rSlT K) := h ▸ sl_tup
theorem sl_listK (h : X.K = K) : SlR X (rSlL K) := h ▸ sl_list
theorem op_catTK (h : X.K = K) : OpR X (binaryOp .Add) (rCatT K) := h ▸ op_catT
theorem call_list_ofK (h : X.K = K) : CallR X (.type "list") (fun xs H Q => ∃ p ys, xs = [.ref p] ∧ (SqL K H p ys ∨ SqT K H p ys) ∧ ∀ l, H l = none → Q (.ref l) (upd H l (.lst ys))) := h ▸ call_list_of
end
/-- one statement at a time -/
theorem seq_gen {A B : TS} {D : Ends} {σ : SV} {H : Hp} (h : ∀ C : SV → Hp → Prop, (∀ σ H, C σ H = B D σ H) → A { D with nx := C } σ H) : tSeq A B D σ H := h _ fun _ _ => rfl
/-- f() -/
theorem pe_d0 {X : Cx} {k j : Nat} {f : Addr} {fd : FuncData} {ps : List Str} {sp : Sp} {x : Str} {p pos : Pos} (D : DefAt X.prog X.w X.K X.mg X.base k x f fd ps sp) (hr : Room j X.A) (hkj : k ≤ j := by decide) (hg : Gl X x := by rfl) (hdb : (x == ("__debug__" : Str)) = false := by decide) :
    PE X (.Call (.Name x p) [] [] pos) (tD sp tNil) := by
  refine ⟨fun pins s σ H Q I h => ?_⟩
  refine (pe_call0 (dvs := []) D.F (hr.mono hkj) hg D.m D.kp D.b .nil pass0 hdb).run pins s σ H Q I ?_
  have e : (tCall sp [] E0 tNil) = tD sp tNil := by funext a b c; unfold tCall tD; simp only [List.append_nil]
  rw [e]
  exact h
end Kx

set_option Elab.async false
set_option linter.all false
set_option maxRecDepth 100000
set_option maxHeartbeats 4000000
set_option exponentiation.threshold 4000
/-! Cuttings. -/
namespace Kx
open PySem PySem.Spec PyProof.Rows L2
def CutOk (a b c e : Int) : Bool := decide (1 ≤ b) && (decide (1 ≤ c) && (decide (c + e < b) && (decide (0 ≤ a) && (decide (a < gcdI b c) && decide (gcdI (gcdI a (gcdI b c)) e = 1)))))
theorem gcd4 (a b c e : Int) : gcdI (gcdI a b) (gcdI c e) = gcdI (gcdI a (gcdI b c)) e := by
  simp only [gcdI, Int.natAbs_natCast, Nat.gcd_assoc]
def cutB (H : Hp) (x : V) : Bool := wholesB H 4 x && (match x with
  | .ref p => match H p with
    | some (.tup [.int a, .int b, .int c, .int e]) => CutOk a b c e
    | _ => false
  | _ => false)
theorem wholes4 {H : Hp} {x : V} (h : wholesB H 4 x = true) : ∃ p a b c e, x = .ref p ∧ H p = some (.tup [.int a, .int b, .int c, .int e]) := by
  obtain ⟨p, xs, e, ha, hl, hall⟩ := wholes_get h
  have hl4 : xs.length = 4 := by omega
  match xs, hl4 with
  | [u, v, w', y], _ =>
    simp only [List.all_cons, List.all_nil, Bool.and_true, Bool.and_eq_true] at hall
    obtain ⟨h1, h2, h3, h4⟩ := hall
    obtain ⟨i, rfl⟩ := isInt_get h1
    obtain ⟨j, rfl⟩ := isInt_get h2
    obtain ⟨l, rfl⟩ := isInt_get h3
    obtain ⟨m, rfl⟩ := isInt_get h4
    exact ⟨p, i, j, l, m, e, ha⟩
theorem cutB4 {H : Hp} {p : Addr} {a b c e : Int} (h : H p = some (.tup [.int a, .int b, .int c, .int e])) : cutB H (.ref p) = CutOk a b c e := by
  unfold cutB wholesB
  simp only [h, List.length_cons, List.length_nil, List.all_cons, List.all_nil, isIntV, Bool.and_self, Bool.and_true]
  rfl
theorem cutB_not {H : Hp} {x : V} (h : wholesB H 4 x = false) : cutB H x = false := by
  unfold cutB
  rw [h, Bool.false_and]
theorem cutB_same {H H' : Hp} {x : V} (s : Same H H') (h : OkItem H x) : cutB H' x = cutB H x := by
  unfold cutB
  rw [wholesB_same s h]
  cases x with
  | ref a =>
    obtain ⟨o, ho⟩ := h.at
    simp only [ho, s _ _ ho]
  | _ => rfl
abbrev Q4 := Int × Int × Int × Int
def cutV4 (q : Q4) : List V := [.int q.1, .int q.2.1, .int q.2.2.1, .int q.2.2.2]
def okQ (q : Q4) : Bool := CutOk q.1 q.2.1 q.2.2.1 q.2.2.2
def measC (q : Q4) : Int := q.2.2.2 * q.2.2.2 + 4 * q.2.1 * q.2.2.1
structure CutAt (H : Hp) (p : Addr) (q : Q4) : Prop where
  at' : H p = some (.tup (cutV4 q))
  ok : okQ q = true
theorem CutAt.same {H H' : Hp} {p : Addr} {q : Q4} (h : CutAt H p q) (s : Same H H') : CutAt H' p q := ⟨s _ _ h.at', h.ok⟩
theorem okQ_get {q : Q4} (h : okQ q = true) : 1 ≤ q.2.1 ∧ 1 ≤ q.2.2.1 ∧ q.2.2.1 + q.2.2.2 < q.2.1 ∧ 0 ≤ q.1 ∧ q.1 < gcdI q.2.1 q.2.2.1 ∧ gcdI (gcdI q.1 (gcdI q.2.1 q.2.2.1)) q.2.2.2 = 1 := by
  unfold okQ CutOk at h
  simp only [Bool.and_eq_true, decide_eq_true_eq] at h
  exact h
theorem sq_mod4 (e : Int) : (e * e) % 4 = 0 ∨ (e * e) % 4 = 1 := by
  have h : e % 2 = 0 ∨ e % 2 = 1 := by omega
  rcases h with h | h
  · left
    have e1 : e = 2 * (e / 2) := by omega
    rw [e1, show 2 * (e / 2) * (2 * (e / 2)) = 4 * ((e / 2) * (e / 2)) by grind]
    omega
  · right
    have e1 : e = 2 * (e / 2) + 1 := by omega
    rw [e1, show (2 * (e / 2) + 1) * (2 * (e / 2) + 1) = 4 * ((e / 2) * (e / 2) + e / 2) + 1 by grind]
    omega
theorem meas_cut {q : Q4} (h : okQ q = true) : Meas (measC q) := by
  obtain ⟨h1, h2, h3, _⟩ := okQ_get h
  unfold Meas measC
  generalize q.2.1 = b at *
  generalize q.2.2.1 = c at *
  generalize q.2.2.2 = e at *
  have hm := sq_mod4 e
  have hbc : b ≤ b * c := by
    have := Int.mul_le_mul_of_nonneg_left h2 (show 0 ≤ b by omega)
    omega
  have hcb : c ≤ b * c := by
    have := Int.mul_le_mul_of_nonneg_right h1 (show 0 ≤ c by omega)
    omega
  have e1 : 4 * b * c = 4 * (b * c) := Int.mul_assoc 4 b c
  have hee : 0 ≤ e * e := by
    by_cases h : e = 0
    · rw [h]; decide
    · have := xx_pos h; omega
  have he0 : e ≠ 0 → 0 < e * e := xx_pos
  rw [e1]
  refine ⟨?_, by omega⟩
  by_cases he : e = 0
  · subst he
    omega
  · have := he0 he
    omega
def spIsCutting : Sp := fun vs H Q _ => ∃ x, vs = [x] ∧ OkV H x ∧ ∀ H', Same H H' → Q (.bl (cutB H x)) H'
/-- where it is one -/
def spCheckCut0 : Sp := fun vs H Q _ => ∃ (p : Addr) (q : Q4), vs = [.ref p] ∧ CutAt H p q ∧ ∀ H', Same H H' → Q .non H'
def Sz4 (n : Nat) (q : Q4) : Prop := q.1.natAbs < 2 ^ n ∧ q.2.1.natAbs < 2 ^ n ∧ q.2.2.1.natAbs < 2 ^ n ∧ q.2.2.2.natAbs < 2 ^ n
def spMeasureOf0 : Sp := fun vs H Q _ => ∃ (p : Addr) (q : Q4), vs = [.ref p] ∧ CutAt H p q ∧ Sz4 1000 q ∧ ∀ H', Same H H' → Q (.int (measC q)) H'
def spApart : Sp := fun vs H Q _ => ∃ a b c : Int, vs = [.int a, .int b, .int c] ∧ Q (.bl (decide (gcdI (gcdI a b) c = 1))) H
def spWholeRoot0 : Sp := fun vs H Q _ => ∃ D : Int, vs = [.int D] ∧ Meas D ∧ D < 2 ^ 2000 ∧ Q (.int (rt D)) H
def spLawIsCutting : Sp := fun vs H Q _ => ∃ a b c e : Int, vs = [.int a, .int b, .int c, .int e] ∧ Q (.bl (CutOk a b c e)) H
/-- four numbers at an address -/
def spLawMeasure4 : Sp := fun vs H Q _ => ∃ (p : Addr) (q : Q4), vs = [.ref p] ∧ H p = some (.tup (cutV4 q)) ∧ Sz4 1000 q ∧ Q (.int (measC q)) H
theorem cutAt_okV {H : Hp} {p : Addr} {q : Q4} (h : H p = some (.tup (cutV4 q))) : OkV H (.ref p) := by
  refine ⟨⟨"tuple", tyS_tup h⟩, fun b xs e1 e2 y hy => ?_⟩
  cases e1
  rw [h] at e2
  cases e2
  simp only [cutV4, List.mem_cons, List.not_mem_nil, or_false] at hy
  rcases hy with rfl | rfl | rfl | rfl <;> exact ⟨"int", rfl⟩
theorem cutB_q {H : Hp} {p : Addr} {q : Q4} (h : H p = some (.tup (cutV4 q))) : cutB H (.ref p) = okQ q := cutB4 h
theorem meas_sz {q : Q4} {n : Nat} (h : Sz4 n q) : (measC q).natAbs < 2 ^ (2 * n + 4) := by
  obtain ⟨_, h2, h3, h4⟩ := h
  unfold measC
  have w1 : (q.2.2.2 * q.2.2.2).natAbs < 2 ^ (2 * n + 3) := up (wide_lt h4 h4) (by omega)
  have w2 : (4 * q.2.1 * q.2.2.1).natAbs < 2 ^ (2 * n + 3) := up (wide_lt (wide_lt (show (4 : Int).natAbs < 2 ^ 3 by decide) h2) h3) (by omega)
  exact sz_add w1 w2
end Kx
namespace Kx
open PySem PySem.Spec PyProof.Rows L2
def spDrawnCut : Sp := fun vs H Q _ => ∃ (g : Addr) (n : Int) (k : Nat), vs = [.ref g, .int n] ∧ GenAt H g k ∧ k ≤ 2 ^ 39 ∧ 1 ≤ n ∧ n ≤ 10 ^ 15 ∧
  ∀ (q : Q4) (p : Addr) (H' : Hp), Sz4 70 q → H p = none → H' p = some (.tup (cutV4 q)) → GenAt H' g (k + 200) → Keep g H H' → Q (.ref p) H'
def spRootRight : Sp := fun vs H Q _ => ∃ D : Int, vs = [.int D] ∧ Meas D ∧ D < 2 ^ 1000 ∧ Q (.bl true) H
def spGreat : Sp := fun vs H Q _ => vs = [] ∧ ∀ H', Same H H' → Q (.bl true) H'
def spFour (n : Nat) : Sp := fun vs H Q _ => ∃ (p : Addr) (q : Q4), vs = [.ref p] ∧ H p = some (.tup (cutV4 q)) ∧ Sz4 n q ∧ ∀ H', Same H H' → Q (.bl true) H'
end Kx
namespace Kx
open PySem PySem.Spec PyProof.Rows L2
def setQ (q : Q4) (i : Nat) (v : V) : List V := (cutV4 q).set i v
theorem bend {K : PySem.W.Frag} {H : Hp} {p : Addr} {q : Q4} {i : Nat} {v : V} {Qf : VK} (hp : H p = some (.tup (cutV4 q))) (hi : i < 4) (k : ∀ r H', Same H H' → H' r = some (.tup (setQ q i v)) → Qf (.ref r) H') :
    rSlA K (.ref p) none (some (0 + (i : Int))) H fun x H1 => 1 ≤ sizeLine ∧ ∀ p1, H1 p1 = none → rCatA K x (.ref p1) (upd H1 p1 (.tup [v])) fun y H2 => rSlA K (.ref p) (some (0 + (i : Int) + 1)) none H2 fun z H3 => rCatA K y z H3 Qf := by
  rcases (show i = 0 ∨ i = 1 ∨ i = 2 ∨ i = 3 by omega) with rfl | rfl | rfl | rfl
  · refine ⟨p, cutV4 q, rfl, SqT.of hp, fun h => absurd h (show ¬ (HT.sIx 4 0 none = 0 ∧ HT.sIx 4 4 (some (0 + ((0 : Nat) : Int))) = 4) by decide), fun _ a na => ⟨by decide, fun b nb => ?_⟩⟩
    rw [show cutV (cutV4 q) none (some (0 + ((0 : Nat) : Int))) = [] from rfl] at nb ⊢
    have ea : (upd (upd H a (.tup [])) b (.tup [v])) a = some (.tup []) := (Same.upd nb) _ _ upd_same
    have eb : (upd (upd H a (.tup [])) b (.tup [v])) b = some (.tup [v]) := upd_same
    have s1 : Same H (upd (upd H a (.tup [])) b (.tup [v])) := (Same.upd na).trans (Same.upd nb)
    generalize upd (upd H a (.tup [])) b (.tup [v]) = h1 at *
    have rest : ∀ (r : Addr) (h2 : Hp), Same H h2 → h2 r = some (.tup [v]) → rSlA K (.ref p) (some (0 + ((0 : Nat) : Int) + 1)) none h2 fun z H3 => rCatA K (.ref r) z H3 Qf := by
      intro r h2 s2 er
      refine ⟨p, cutV4 q, rfl, SqT.of (s2 _ _ hp), fun h => absurd h (show ¬ (HT.sIx 4 0 (some (0 + ((0 : Nat) : Int) + 1)) = 0 ∧ HT.sIx 4 4 none = 4) by decide), fun _ c nc => ?_⟩
      rw [show cutV (cutV4 q) (some (0 + ((0 : Nat) : Int) + 1)) none = [V.int q.2.1, V.int q.2.2.1, V.int q.2.2.2] from rfl]
      refine ⟨r, c, [v], [V.int q.2.1, V.int q.2.2.1, V.int q.2.2.2], rfl, rfl, SqT.of ((Same.upd nc) _ _ er), SqT.of upd_same, (show 4 ≤ sizeLine by decide), fun h => absurd h (by simp), ?_, ?_⟩
      · exact fun _ h => absurd h (by simp)
      · exact fun _ _ d nd => k d _ ((s2.trans (Same.upd nc)).trans (Same.upd nd)) upd_same
    exact ⟨a, b, [], [v], rfl, rfl, SqT.of ea, SqT.of eb, (show 1 ≤ sizeLine by decide), fun _ => rest b _ s1 eb, fun h => absurd rfl h, fun h => absurd rfl h⟩
  · refine ⟨p, cutV4 q, rfl, SqT.of hp, fun h => absurd h (show ¬ (HT.sIx 4 0 none = 0 ∧ HT.sIx 4 4 (some (0 + ((1 : Nat) : Int))) = 4) by decide), fun _ a na => ⟨by decide, fun b nb => ?_⟩⟩
    rw [show cutV (cutV4 q) none (some (0 + ((1 : Nat) : Int))) = [V.int q.1] from rfl] at nb ⊢
    have ea : (upd (upd H a (.tup [V.int q.1])) b (.tup [v])) a = some (.tup [V.int q.1]) := (Same.upd nb) _ _ upd_same
    have eb : (upd (upd H a (.tup [V.int q.1])) b (.tup [v])) b = some (.tup [v]) := upd_same
    have s1 : Same H (upd (upd H a (.tup [V.int q.1])) b (.tup [v])) := (Same.upd na).trans (Same.upd nb)
    generalize upd (upd H a (.tup [V.int q.1])) b (.tup [v]) = h1 at *
    have rest : ∀ (r : Addr) (h2 : Hp), Same H h2 → h2 r = some (.tup [V.int q.1, v]) → rSlA K (.ref p) (some (0 + ((1 : Nat) : Int) + 1)) none h2 fun z H3 => rCatA K (.ref r) z H3 Qf := by
      intro r h2 s2 er
      refine ⟨p, cutV4 q, rfl, SqT.of (s2 _ _ hp), fun h => absurd h (show ¬ (HT.sIx 4 0 (some (0 + ((1 : Nat) : Int) + 1)) = 0 ∧ HT.sIx 4 4 none = 4) by decide), fun _ c nc => ?_⟩
      rw [show cutV (cutV4 q) (some (0 + ((1 : Nat) : Int) + 1)) none = [V.int q.2.2.1, V.int q.2.2.2] from rfl]
      refine ⟨r, c, [V.int q.1, v], [V.int q.2.2.1, V.int q.2.2.2], rfl, rfl, SqT.of ((Same.upd nc) _ _ er), SqT.of upd_same, (show 4 ≤ sizeLine by decide), fun h => absurd h (by simp), ?_, ?_⟩
      · exact fun _ h => absurd h (by simp)
      · exact fun _ _ d nd => k d _ ((s2.trans (Same.upd nc)).trans (Same.upd nd)) upd_same
    exact ⟨a, b, [V.int q.1], [v], rfl, rfl, SqT.of ea, SqT.of eb, (show 2 ≤ sizeLine by decide), fun h => absurd h (by simp), fun _ h => absurd h (by simp), fun _ _ r nr => rest r _ (s1.trans (Same.upd nr)) upd_same⟩
  · refine ⟨p, cutV4 q, rfl, SqT.of hp, fun h => absurd h (show ¬ (HT.sIx 4 0 none = 0 ∧ HT.sIx 4 4 (some (0 + ((2 : Nat) : Int))) = 4) by decide), fun _ a na => ⟨by decide, fun b nb => ?_⟩⟩
    rw [show cutV (cutV4 q) none (some (0 + ((2 : Nat) : Int))) = [V.int q.1, V.int q.2.1] from rfl] at nb ⊢
    have ea : (upd (upd H a (.tup [V.int q.1, V.int q.2.1])) b (.tup [v])) a = some (.tup [V.int q.1, V.int q.2.1]) := (Same.upd nb) _ _ upd_same
    have eb : (upd (upd H a (.tup [V.int q.1, V.int q.2.1])) b (.tup [v])) b = some (.tup [v]) := upd_same
    have s1 : Same H (upd (upd H a (.tup [V.int q.1, V.int q.2.1])) b (.tup [v])) := (Same.upd na).trans (Same.upd nb)
    generalize upd (upd H a (.tup [V.int q.1, V.int q.2.1])) b (.tup [v]) = h1 at *
    have rest : ∀ (r : Addr) (h2 : Hp), Same H h2 → h2 r = some (.tup [V.int q.1, V.int q.2.1, v]) → rSlA K (.ref p) (some (0 + ((2 : Nat) : Int) + 1)) none h2 fun z H3 => rCatA K (.ref r) z H3 Qf := by
      intro r h2 s2 er
      refine ⟨p, cutV4 q, rfl, SqT.of (s2 _ _ hp), fun h => absurd h (show ¬ (HT.sIx 4 0 (some (0 + ((2 : Nat) : Int) + 1)) = 0 ∧ HT.sIx 4 4 none = 4) by decide), fun _ c nc => ?_⟩
      rw [show cutV (cutV4 q) (some (0 + ((2 : Nat) : Int) + 1)) none = [V.int q.2.2.2] from rfl]
      refine ⟨r, c, [V.int q.1, V.int q.2.1, v], [V.int q.2.2.2], rfl, rfl, SqT.of ((Same.upd nc) _ _ er), SqT.of upd_same, (show 4 ≤ sizeLine by decide), fun h => absurd h (by simp), ?_, ?_⟩
      · exact fun _ h => absurd h (by simp)
      · exact fun _ _ d nd => k d _ ((s2.trans (Same.upd nc)).trans (Same.upd nd)) upd_same
    exact ⟨a, b, [V.int q.1, V.int q.2.1], [v], rfl, rfl, SqT.of ea, SqT.of eb, (show 3 ≤ sizeLine by decide), fun h => absurd h (by simp), fun _ h => absurd h (by simp), fun _ _ r nr => rest r _ (s1.trans (Same.upd nr)) upd_same⟩
  · refine ⟨p, cutV4 q, rfl, SqT.of hp, fun h => absurd h (show ¬ (HT.sIx 4 0 none = 0 ∧ HT.sIx 4 4 (some (0 + ((3 : Nat) : Int))) = 4) by decide), fun _ a na => ⟨by decide, fun b nb => ?_⟩⟩
    rw [show cutV (cutV4 q) none (some (0 + ((3 : Nat) : Int))) = [V.int q.1, V.int q.2.1, V.int q.2.2.1] from rfl] at nb ⊢
    have ea : (upd (upd H a (.tup [V.int q.1, V.int q.2.1, V.int q.2.2.1])) b (.tup [v])) a = some (.tup [V.int q.1, V.int q.2.1, V.int q.2.2.1]) := (Same.upd nb) _ _ upd_same
    have eb : (upd (upd H a (.tup [V.int q.1, V.int q.2.1, V.int q.2.2.1])) b (.tup [v])) b = some (.tup [v]) := upd_same
    have s1 : Same H (upd (upd H a (.tup [V.int q.1, V.int q.2.1, V.int q.2.2.1])) b (.tup [v])) := (Same.upd na).trans (Same.upd nb)
    generalize upd (upd H a (.tup [V.int q.1, V.int q.2.1, V.int q.2.2.1])) b (.tup [v]) = h1 at *
    have rest : ∀ (r : Addr) (h2 : Hp), Same H h2 → h2 r = some (.tup [V.int q.1, V.int q.2.1, V.int q.2.2.1, v]) → rSlA K (.ref p) (some (0 + ((3 : Nat) : Int) + 1)) none h2 fun z H3 => rCatA K (.ref r) z H3 Qf := by
      intro r h2 s2 er
      refine ⟨p, cutV4 q, rfl, SqT.of (s2 _ _ hp), fun h => absurd h (show ¬ (HT.sIx 4 0 (some (0 + ((3 : Nat) : Int) + 1)) = 0 ∧ HT.sIx 4 4 none = 4) by decide), fun _ c nc => ?_⟩
      rw [show cutV (cutV4 q) (some (0 + ((3 : Nat) : Int) + 1)) none = [] from rfl]
      refine ⟨r, c, [V.int q.1, V.int q.2.1, V.int q.2.2.1, v], [], rfl, rfl, SqT.of ((Same.upd nc) _ _ er), SqT.of upd_same, (show 4 ≤ sizeLine by decide), fun h => absurd h (by simp), ?_, ?_⟩
      · exact fun _ _ => k r _ (s2.trans (Same.upd nc)) ((Same.upd nc) _ _ er)
      · exact fun _ h => absurd rfl h
    exact ⟨a, b, [V.int q.1, V.int q.2.1, V.int q.2.2.1], [v], rfl, rfl, SqT.of ea, SqT.of eb, (show 4 ≤ sizeLine by decide), fun h => absurd h (by simp), fun _ h => absurd h (by simp), fun _ _ r nr => rest r _ (s1.trans (Same.upd nr)) upd_same⟩
def setZ (q : Q4) : Nat → Int → Q4
  | 0, n => (n, q.2.1, q.2.2.1, q.2.2.2)
  | 1, n => (q.1, n, q.2.2.1, q.2.2.2)
  | 2, n => (q.1, q.2.1, n, q.2.2.2)
  | _, n => (q.1, q.2.1, q.2.2.1, n)
theorem setQ_int {q : Q4} {i : Nat} {n : Int} (hi : i < 4) : setQ q i (.int n) = cutV4 (setZ q i n) := by
  rcases (show i = 0 ∨ i = 1 ∨ i = 2 ∨ i = 3 by omega) with rfl | rfl | rfl | rfl <;> rfl
theorem setZ_sz {q : Q4} {i : Nat} {n : Int} {m : Nat} (z : Sz4 m q) (hn : n.natAbs < 2 ^ m) : Sz4 m (setZ q i n) := by
  obtain ⟨z1, z2, z3, z4⟩ := z
  unfold setZ
  split
  · exact ⟨hn, z2, z3, z4⟩
  · exact ⟨z1, hn, z3, z4⟩
  · exact ⟨z1, z2, hn, z4⟩
  · exact ⟨z1, z2, z3, hn⟩
theorem Sz4.up {n m : Nat} {q : Q4} (h : Sz4 n q) (l : n ≤ m) : Sz4 m q := ⟨Kx.up h.1 l, Kx.up h.2.1 l, Kx.up h.2.2.1 l, Kx.up h.2.2.2 l⟩
/-- a tuple with an odd item is none -/
theorem setQ_odd {H : Hp} {r : Addr} {q : Q4} {i : Nat} {v : V} (hi : i < 4) (h : H r = some (.tup (setQ q i v))) (hv : isIntV v = false) : cutB H (.ref r) = false := by
  refine cutB_not ?_
  rw [wholes_tup h]
  have : (setQ q i v).all isIntV = false := by
    rcases (show i = 0 ∨ i = 1 ∨ i = 2 ∨ i = 3 by omega) with rfl | rfl | rfl | rfl <;> (simp [setQ, cutV4, isIntV]; exact hv)
  rw [this, Bool.and_false]
theorem setQ_ok {H : Hp} {r : Addr} {q : Q4} {i : Nat} {v : V} (hi : i < 4) (h : H r = some (.tup (setQ q i v))) (hv : OkItem H v) : OkV H (.ref r) := by
  refine ⟨⟨"tuple", tyS_tup h⟩, fun b xs e1 e2 y hy => ?_⟩
  cases e1
  rw [h] at e2
  cases e2
  have hm : y = v ∨ y ∈ cutV4 q := by
    rcases List.mem_or_eq_of_mem_set hy with h | h
    · exact .inr h
    · exact .inl h
  rcases hm with rfl | hm
  · exact hv
  · simp only [cutV4, List.mem_cons, List.not_mem_nil, or_false] at hm
    rcases hm with rfl | rfl | rfl | rfl <;> exact ⟨"int", rfl⟩
end Kx
namespace Kx
open PySem PySem.Spec PyProof.Rows L2
theorem cutB_of {H : Hp} {x : V} {t : String} (h : tyS H x = some t) (hn : t ≠ "tuple") : cutB H x = false := cutB_not (wholes_not h hn)
theorem cutB_len {H : Hp} {a : Addr} {xs : List V} (h : H a = some (.tup xs)) (hl : xs.length ≠ 4) : cutB H (.ref a) = false := cutB_not (by
  rw [wholes_tup h, decide_eq_false (by omega), Bool.false_and])
theorem okV_tup {H : Hp} {a : Addr} {xs : List V} (h : H a = some (.tup xs)) (hi : ∀ y ∈ xs, OkItem H y) : OkV H (.ref a) := ⟨⟨"tuple", tyS_tup h⟩, fun b ys e1 e2 y hy => by
  cases e1
  rw [h] at e2
  cases e2
  exact hi y hy⟩
theorem shaped_ints (ns : List Int) : SeqAt.shaped (.list (ns.map PyData.int)) = true := flat_shaped fun d hd => by
  obtain ⟨n, _, rfl⟩ := List.mem_map.mp hd
  exact ⟨rfl, Nat.le_of_ble_eq_true rfl⟩
end Kx
namespace Kx
open PySem PySem.Spec PyProof.Rows L2
theorem eq_nil {K : PySem.W.Frag} {H : Hp} {a b : Addr} {Q : VK} (h1 : H a = some (.lst [])) (h2 : H b = some (.lst [])) (q : Q (.bl true) H) : rEqD K (.ref a) (.ref b) H Q :=
  ⟨.list [], .list [], .lst (SqL.of h1) .nil, .lst (SqL.of h2) .nil, rfl, rfl, q⟩
end Kx
namespace Kx
open PySem PySem.Spec PyProof.Rows L2
theorem dpAll_bools {K : PySem.W.Frag} {H : Hp} : ∀ bs : List Bool, DpAll K H (bs.map V.bl) (bs.map PyData.bool)
  | [] => .nil
  | b :: bs => .cons (.bl b) (dpAll_bools bs)
theorem shaped_bools (bs : List Bool) : SeqAt.shaped (.list (bs.map PyData.bool)) = true := flat_shaped fun d hd => by
  obtain ⟨n, _, rfl⟩ := List.mem_map.mp hd
  exact ⟨rfl, Nat.le_of_ble_eq_true rfl⟩
theorem ne_bools {K : PySem.W.Frag} {H : Hp} {a b : Addr} {Q : VK} (bs : List Bool) (h1 : H a = some (.lst (bs.map V.bl))) (h2 : H b = some (.lst (bs.map V.bl))) (q : Q (.bl false) H) : rNeD K (.ref a) (.ref b) H Q :=
  ⟨_, _, .lst (SqL.of h1) (dpAll_bools bs), .lst (SqL.of h2) (dpAll_bools bs), shaped_bools bs, shaped_bools bs, by rw [eqv_same (shaped_bools bs)]; exact q⟩
end Kx

set_option Elab.async false
set_option linter.all false
set_option maxRecDepth 100000
set_option maxHeartbeats 4000000
set_option exponentiation.threshold 4000
namespace L07
open PySem PySem.Spec PyProof.Rows L2 Kx

def top (i : Nat) : Stmt := PySem.Challenge.pw_slitsheets_k07_cuttings_judged.main.body.getD i (.Pass ⟨0, 0, 0, 0⟩)

abbrev s_IsWhole : Stmt := top 7

abbrev N_IsWhole : List Str := ["value"]

theorem scIsWhole : FnScope ["value"] ["value"] (defScope s_IsWhole) := ⟨rfl, rfl, rfl, by decide +kernel, rfl, by decide +kernel, by decide +kernel⟩

abbrev s_AreWholes : Stmt := top 8

abbrev N_AreWholes : List Str := ["value", "many", "item"]

theorem scAreWholes : FnScope ["value", "many", "item"] ["value", "many"] (defScope s_AreWholes) := ⟨rfl, rfl, rfl, by decide +kernel, rfl, by decide +kernel, by decide +kernel⟩

abbrev s_IsMeasure : Stmt := top 10

abbrev N_IsMeasure : List Str := ["value"]

theorem scIsMeasure : FnScope ["value"] ["value"] (defScope s_IsMeasure) := ⟨rfl, rfl, rfl, by decide +kernel, rfl, by decide +kernel, by decide +kernel⟩

abbrev s_CheckMeasure : Stmt := top 11

abbrev N_CheckMeasure : List Str := ["measure"]

theorem scCheckMeasure : FnScope ["measure"] ["measure"] (defScope s_CheckMeasure) := ⟨rfl, rfl, rfl, by decide +kernel, rfl, by decide +kernel, by decide +kernel⟩

abbrev s_WholeRoot : Stmt := top 12

abbrev N_WholeRoot : List Str := ["measure"]

theorem scWholeRoot : FnScope ["measure"] ["measure"] (defScope s_WholeRoot) := ⟨rfl, rfl, rfl, by decide +kernel, rfl, by decide +kernel, by decide +kernel⟩

abbrev s_IsCutting : Stmt := top 14

abbrev N_IsCutting : List Str := ["value", "a", "b", "c", "e", "common"]

theorem scIsCutting : FnScope ["value", "a", "b", "c", "e", "common"] ["value"] (defScope s_IsCutting) := ⟨rfl, rfl, rfl, by decide +kernel, rfl, by decide +kernel, by decide +kernel⟩

abbrev s_CheckCutting : Stmt := top 15

abbrev N_CheckCutting : List Str := ["cutting"]

theorem scCheckCutting : FnScope ["cutting"] ["cutting"] (defScope s_CheckCutting) := ⟨rfl, rfl, rfl, by decide +kernel, rfl, by decide +kernel, by decide +kernel⟩

abbrev s_MeasureOf : Stmt := top 16

abbrev N_MeasureOf : List Str := ["cutting", "_", "b", "c", "e"]

theorem scMeasureOf : FnScope ["cutting", "_", "b", "c", "e"] ["cutting"] (defScope s_MeasureOf) := ⟨rfl, rfl, rfl, by decide +kernel, rfl, by decide +kernel, by decide +kernel⟩

abbrev s_AreWithoutDivisor : Stmt := top 17

abbrev N_AreWithoutDivisor : List Str := ["one", "other", "third"]

theorem scAreWithoutDivisor : FnScope ["one", "other", "third"] ["one", "other", "third"] (defScope s_AreWithoutDivisor) := ⟨rfl, rfl, rfl, by decide +kernel, rfl, by decide +kernel, by decide +kernel⟩

abbrev s_RootTimes : Stmt := top 19

abbrev N_RootTimes : List Str := ["measure", "one", "other"]

theorem scRootTimes : FnScope ["measure", "one", "other"] ["measure", "one", "other"] (defScope s_RootTimes) := ⟨rfl, rfl, rfl, by decide +kernel, rfl, by decide +kernel, by decide +kernel⟩

abbrev s_RootSide : Stmt := top 20

abbrev N_RootSide : List Str := ["measure", "root", "x", "y", "_"]

theorem scRootSide : FnScope ["measure", "root", "x", "y", "_"] ["measure", "root"] (defScope s_RootSide) := ⟨rfl, rfl, rfl, by decide +kernel, rfl, by decide +kernel, by decide +kernel⟩

abbrev s_RootFloor : Stmt := top 21

abbrev N_RootFloor : List Str := ["measure", "root", "x", "y", "below"]

theorem scRootFloor : FnScope ["measure", "root", "x", "y", "below"] ["measure", "root"] (defScope s_RootFloor) := ⟨rfl, rfl, rfl, by decide +kernel, rfl, by decide +kernel, by decide +kernel⟩

abbrev s_Check : Stmt := top 22

abbrev N_Check : List Str := ["measure", "roots", "root"]

theorem scCheck : FnScope ["measure", "roots", "root"] ["measure", "roots"] (defScope s_Check) := ⟨rfl, rfl, rfl, by decide +kernel, rfl, by decide +kernel, by decide +kernel⟩

abbrev s_IsRootOf : Stmt := top 23

abbrev N_IsRootOf : List Str := ["measure", "value", "x", "y", "below"]

theorem scIsRootOf : FnScope ["measure", "value", "x", "y", "below"] ["measure", "value"] (defScope s_IsRootOf) := ⟨rfl, rfl, rfl, by decide +kernel, rfl, by decide +kernel, by decide +kernel⟩

abbrev s_HasWholeRoot : Stmt := top 24

abbrev N_HasWholeRoot : List Str := ["measure", "root"]

theorem scHasWholeRoot : FnScope ["measure", "root"] ["measure"] (defScope s_HasWholeRoot) := ⟨rfl, rfl, rfl, by decide +kernel, rfl, by decide +kernel, by decide +kernel⟩

abbrev s_Reduced : Stmt := top 25

abbrev N_Reduced : List Str := ["measure", "x", "y", "below", "common"]

theorem scReduced : FnScope ["measure", "x", "y", "below", "common"] ["measure", "x", "y", "below"] (defScope s_Reduced) := ⟨rfl, rfl, rfl, by decide +kernel, rfl, by decide +kernel, by decide +kernel⟩

abbrev s_Multiplied : Stmt := top 26

abbrev N_Multiplied : List Str := ["measure", "one", "other", "x", "y", "below", "other_x", "other_y", "other_below", "product_x", "product_y"]

theorem scMultiplied : FnScope ["measure", "one", "other", "x", "y", "below", "other_x", "other_y", "other_below", "product_x", "product_y"] ["measure", "one", "other"] (defScope s_Multiplied) := ⟨rfl, rfl, rfl, by decide +kernel, rfl, by decide +kernel, by decide +kernel⟩

abbrev s_Side : Stmt := top 27

abbrev N_Side : List Str := ["number"]

theorem scSide : FnScope ["number"] ["number"] (defScope s_Side) := ⟨rfl, rfl, rfl, by decide +kernel, rfl, by decide +kernel, by decide +kernel⟩

abbrev s_FloorOfMultiple : Stmt := top 28

abbrev N_FloorOfMultiple : List Str := ["measure", "times", "square"]

theorem scFloorOfMultiple : FnScope ["measure", "times", "square"] ["measure", "times"] (defScope s_FloorOfMultiple) := ⟨rfl, rfl, rfl, by decide +kernel, rfl, by decide +kernel, by decide +kernel⟩

abbrev s_LawHash : Stmt := top 30

abbrev N_LawHash : List Str := ["_law_seed", "_law_index", "_law_mixed"]

theorem scLawHash : FnScope ["_law_seed", "_law_index", "_law_mixed"] ["_law_seed", "_law_index"] (defScope s_LawHash) := ⟨rfl, rfl, rfl, by decide +kernel, rfl, by decide +kernel, by decide +kernel⟩

abbrev s_LawRandom : Stmt := top 31

abbrev N_LawRandom : List Str := ["_law_generator_here", "_law_bound", "_law_drawn_here", "_law_turn"]

theorem scLawRandom : FnScope ["_law_generator_here", "_law_bound", "_law_drawn_here", "_law_turn"] ["_law_generator_here", "_law_bound"] (defScope s_LawRandom) := ⟨rfl, rfl, rfl, by decide +kernel, rfl, by decide +kernel, by decide +kernel⟩

abbrev s_LawCell : Stmt := top 32

abbrev N_LawCell : List Str := ["_law_script", "_law_index"]

theorem scLawCell : FnScope ["_law_script", "_law_index"] ["_law_script", "_law_index"] (defScope s_LawCell) := ⟨rfl, rfl, rfl, by decide +kernel, rfl, by decide +kernel, by decide +kernel⟩

abbrev s_LawGenerator : Stmt := top 33

abbrev N_LawGenerator : List Str := ["_law_script", "_law_index", "_law_seed"]

theorem scLawGenerator : FnScope ["_law_script", "_law_index", "_law_seed"] ["_law_script", "_law_index"] (defScope s_LawGenerator) := ⟨rfl, rfl, rfl, by decide +kernel, rfl, by decide +kernel, by decide +kernel⟩

abbrev s_LawCommon : Stmt := top 34

abbrev N_LawCommon : List Str := ["_law_one", "_law_other"]

theorem scLawCommon : FnScope ["_law_one", "_law_other"] ["_law_one", "_law_other"] (defScope s_LawCommon) := ⟨rfl, rfl, rfl, by decide +kernel, rfl, by decide +kernel, by decide +kernel⟩

abbrev s_LawMeasure : Stmt := top 35

abbrev N_LawMeasure : List Str := ["_law_cutting"]

theorem scLawMeasure : FnScope ["_law_cutting"] ["_law_cutting"] (defScope s_LawMeasure) := ⟨rfl, rfl, rfl, by decide +kernel, rfl, by decide +kernel, by decide +kernel⟩

abbrev s_LawIsCutting : Stmt := top 36

abbrev N_LawIsCutting : List Str := ["_law_a", "_law_b", "_law_c", "_law_e"]

theorem scLawIsCutting : FnScope ["_law_a", "_law_b", "_law_c", "_law_e"] ["_law_a", "_law_b", "_law_c", "_law_e"] (defScope s_LawIsCutting) := ⟨rfl, rfl, rfl, by decide +kernel, rfl, by decide +kernel, by decide +kernel⟩

abbrev s_LawWith : Stmt := top 37

abbrev N_LawWith : List Str := ["_law_measure_here", "_law_e", "_law_found", "_law_left", "_law_c", "_law_b", "_law_a"]

theorem scLawWith : FnScope ["_law_measure_here", "_law_e", "_law_found", "_law_left", "_law_c", "_law_b", "_law_a"] ["_law_measure_here", "_law_e"] (defScope s_LawWith) := ⟨rfl, rfl, rfl, by decide +kernel, rfl, by decide +kernel, by decide +kernel⟩

abbrev s_LawTurns : Stmt := top 38

abbrev N_LawTurns : List Str := ["_law_measure_here", "_law_e"]

theorem scLawTurns : FnScope ["_law_measure_here", "_law_e"] ["_law_measure_here"] (defScope s_LawTurns) := ⟨rfl, rfl, rfl, by decide +kernel, rfl, by decide +kernel, by decide +kernel⟩

abbrev s_LawAll : Stmt := top 39

abbrev N_LawAll : List Str := ["_law_measure_here", "_law_found", "_law_e"]

theorem scLawAll : FnScope ["_law_measure_here", "_law_found", "_law_e"] ["_law_measure_here"] (defScope s_LawAll) := ⟨rfl, rfl, rfl, by decide +kernel, rfl, by decide +kernel, by decide +kernel⟩

abbrev s_LawDrawnMeasure : Stmt := top 40

abbrev N_LawDrawnMeasure : List Str := ["_law_generator_here", "_law_most", "_law_found"]

theorem scLawDrawnMeasure : FnScope ["_law_generator_here", "_law_most", "_law_found"] ["_law_generator_here", "_law_most"] (defScope s_LawDrawnMeasure) := ⟨rfl, rfl, rfl, by decide +kernel, rfl, by decide +kernel, by decide +kernel⟩

abbrev s_LawDrawn : Stmt := top 41

abbrev N_LawDrawn : List Str := ["_law_generator_here", "_law_most", "_law_c", "_law_e", "_law_part", "_law_b"]

theorem scLawDrawn : FnScope ["_law_generator_here", "_law_most", "_law_c", "_law_e", "_law_part", "_law_b"] ["_law_generator_here", "_law_most"] (defScope s_LawDrawn) := ⟨rfl, rfl, rfl, by decide +kernel, rfl, by decide +kernel, by decide +kernel⟩

abbrev s_LawRootRight : Stmt := top 42

abbrev N_LawRootRight : List Str := ["_law_measure_here", "_law_root"]

theorem scLawRootRight : FnScope ["_law_measure_here", "_law_root"] ["_law_measure_here"] (defScope s_LawRootRight) := ⟨rfl, rfl, rfl, by decide +kernel, rfl, by decide +kernel, by decide +kernel⟩

abbrev s_LawGreatRight : Stmt := top 43

abbrev N_LawGreatRight : List Str := ["_law_great", "_law_told"]

theorem scLawGreatRight : FnScope ["_law_great", "_law_told"] [] (defScope s_LawGreatRight) := ⟨rfl, rfl, rfl, by decide +kernel, rfl, by decide +kernel, by decide +kernel⟩

abbrev s_LawValueRight : Stmt := top 44

abbrev N_LawValueRight : List Str := ["_law_value", "_law_due"]

theorem scLawValueRight : FnScope ["_law_value", "_law_due"] ["_law_value"] (defScope s_LawValueRight) := ⟨rfl, rfl, rfl, by decide +kernel, rfl, by decide +kernel, by decide +kernel⟩

abbrev s_LawNearRight : Stmt := top 45

abbrev N_LawNearRight : List Str := ["_law_value", "_law_place", "_law_bent", "_law_odd", "_law_given"]

theorem scLawNearRight : FnScope ["_law_value", "_law_place", "_law_bent", "_law_odd", "_law_given"] ["_law_value"] (defScope s_LawNearRight) := ⟨rfl, rfl, rfl, by decide +kernel, rfl, by decide +kernel, by decide +kernel⟩

abbrev s_Law : Stmt := top 46

abbrev N_Law : List Str := ["_law_script", "_law_index", "_law_generator_here", "_law_most", "_law_value"]

theorem scLaw : FnScope ["_law_script", "_law_index", "_law_generator_here", "_law_most", "_law_value"] ["_law_script"] (defScope s_Law) := ⟨rfl, rfl, rfl, by decide +kernel, rfl, by decide +kernel, by decide +kernel⟩

/-- what the top leaves of the names -/
structure Txt (K : PySem.W.Frag) (mg : Str → Option Value) : Prop where
  abs : mg "abs" = none
  all : mg "all" = none
  bool : mg "bool" = none
  int : mg "int" = none
  isinstance : mg "isinstance" = none
  len : mg "len" = none
  list : mg "list" = none
  max : mg "max" = none
  range : mg "range" = none
  repr : mg "repr" = none
  sorted : mg "sorted" = none
  sum : mg "sum" = none
  tuple : mg "tuple" = none
  gcd : mg "gcd" = some (.builtin "math.gcd")
  isqrt : mg "isqrt" = some (.builtin "math.isqrt")

section
variable {P : Program} {w : World} {K : PySem.W.Frag} {mg : Str → Option Value} {base : Heap}

theorem okLawHash {f : Addr} {fd : FuncData} (F : Fun K "_law_hash" "_law_hash" s_LawHash f fd) (T : Txt K mg) : FnOk P w K mg base CX0 1 f fd ["_law_seed", "_law_index"] (spHash) := by
  refine F.ok scLawHash (fun vs H Q E h => ?_) (fun cdv A outer s H vs Q E hr h => ?_)
  · obtain ⟨a, i, rfl, _⟩ := h
    rfl
  · obtain ⟨a, i, rfl, h0, h1, h2, h3, k⟩ := h
    refine ⟨_, (pss_cons (ps_set (i := 2) scLawHash.nd rfl (Or.inl rfl) (pe_op op_mod (pe_callTy cr_int (by rfl) T.int (by decide +kernel) (pa_cons (pe_op op_add (pe_op op_add (pe_op op_add (pe_op op_mulU (pv 0) pe_int) (pe_op op_mulU (pe_op op_mulU pe_int (pv 1)) (pv 1))) (pe_op op_mulU pe_int (pv 1))) pe_int) pa_nil)) pe_int))
        (pss_cons (ps_set (i := 2) scLawHash.nd rfl (Or.inl rfl) (pe_op op_mod (pe_callTy cr_int (by rfl) T.int (by decide +kernel) (pa_cons (pe_op op_add (pe_op op_add (pe_op op_mulU (pv 2) (pv 2)) (pe_op op_mulU pe_int (pv 1))) pe_int) pa_nil)) pe_int))
        (pss_one (ps_ret (pe_op op_mod (pe_callTy cr_int (by rfl) T.int (by decide +kernel) (pa_cons (pe_op op_mulU (pv 2) pe_int) pa_nil)) pe_int))))), ?_⟩
    have e0 : start N_LawHash [.int a, .int i] = [some (.int a), some (.int i), none] := rfl
    rw [e0]
    simp only [cxK, wipe, tYes, List.map_cons, List.map_nil, rIxL, rSum, tSl, rSlL, tNoPart, tPart, exists_and_left, and_assoc, V.ref.injEq, HO.lst.injEq, HO.tup.injEq, tFor_eq, iRng1, iRng2, iList, iTup, tLc_eq, tLst, tTup, gSub, rSetL, gT, gL, gTup, gCons, gNil, atI_0, atI_1, atI_2, atI_3, List.length_cons, List.length_nil, Nat.zero_add, Nat.reduceAdd, Nat.reduceLeDiff, ixN_30, ixN_31, ixN_32, Int.reduceLT, Int.reduceLE, Int.reduceNeg, upd_same, reduceCtorEq, false_and, exists_false, or_false, false_or, tSeq, tNext, tIfS, tRet, tRetN, tDrop, tAsg, gName, tPar, tPar3, tAug, ipI, tVar, tC, tOp, tUn, tCB, tD, tDK, tCons, tNil, rI, rI0, rU, tB, tTest, tAnd, tOr, tNot, tAndV, tOrV, tNotV, tIf, rEq, rNe, scal_ii, scal_bb, scal_ss, rGcd_eq, tBits, List.set_cons_zero, List.set_cons_succ, List.getElem?_cons_zero, List.getElem?_cons_succ, Option.some.injEq, exists_eq_left', V.int.injEq, V.bl.injEq, V.str.injEq, true_and, and_true, decide_eq_true_eq, List.cons.injEq, exists_eq_left, Bool.false_eq_true, if_false, if_true, ite_true, ite_false, Bool.not_eq_true', decide_eq_false_iff_not, Bool.not_not]
    exact ⟨cmw (by omega) (by omega) (by omega) (by omega), cmw (by omega) (by omega) (by omega) (by omega), cmw (by omega) (by omega) (by omega) (by omega), cmw (by omega) (by omega) (by omega) (by omega), cmw (by omega) (by omega) (by omega) (by omega), cmw (by omega) (by omega) (by omega) (by omega), cmw (by omega) (by omega) (by omega) (by omega), k _ (by omega) (by omega)⟩

def InvRandom (g : Addr) (n : Int) (k : Nat) (H : Hp) : Nat → SV → Hp → Prop := fun i σ H2 => ∃ (d : Int) (t : Option V), σ = [some (.ref g), some (.int n), some (.int d), t] ∧ GenAt H2 g (k + i) ∧ Keep g H H2

theorem okLawRandom {f : Addr} {fd : FuncData} (F : Fun K "_law_random" "_law_random" s_LawRandom f fd) (T : Txt K mg) {fLawHash : Addr} {fdLawHash : FuncData} (D_LawHash : DefAt P w K mg base 1 "_law_hash" fLawHash fdLawHash ["_law_seed", "_law_index"] (spHash)) : FnOk P w K mg base CX0 2 f fd ["_law_generator_here", "_law_bound"] (spRandom) := by
  refine F.ok scLawRandom (fun vs H Q E h => ?_) (fun cdv A outer s H vs Q E hr h => ?_)
  · obtain ⟨g, n, k, rfl, _⟩ := h
    rfl
  · obtain ⟨g, n, k, rfl, hG, hk, hn1, hn2, kk⟩ := h
    obtain ⟨a, b, c, hg, ha0, ha1, hb0, hb1, hc0, hc1⟩ := id hG
    refine ⟨_, (pss_cons (ps_if (pt_cmpR op_gt (pe_ix ixL (pv 0) pe_int (fun _ _ => rfl)) pe_int (nomark _)) (pss_cons (ps_set (i := 2) scLawRandom.nd rfl (Or.inl rfl) (pe_op op_mod (pe_callTy cr_int (by rfl) T.int (by decide +kernel) (pa_cons (pe_ix ixL (pv 0) pe_int (fun _ _ => rfl)) pa_nil)) (pv 1)))
        (pss_cons (ps_asg (pe_op op_fdivX (pe_ix ixL (pv 0) pe_int (fun _ _ => rfl)) (pv 1)) (pg_sub (pv 0) pe_int set_list))
        (pss_one (ps_ret (pv 2))))) pss_nil)
        (pss_cons (ps_set (i := 2) scLawRandom.nd rfl (Or.inl rfl) pe_int)
        (pss_cons (ps_for PassesOwn.never rfl (pi_range1 rfl T.range (pa_cons (pe_op op_add pe_int (pe_op op_fdivX (pe_bits (pv 1)) pe_int)) pa_nil)) (pg_name (i := 3) scLawRandom.nd rfl (Or.inl rfl)) (pss_cons (ps_asg (pe_op op_add (pe_ix ixL (pv 0) pe_int (fun _ _ => rfl)) pe_int) (pg_sub (pv 0) pe_int set_list))
        (pss_one (ps_set (i := 2) scLawRandom.nd rfl (Or.inl rfl) (pe_op op_add (pe_op op_mulU (pv 2) pe_int) (pe_d D_LawHash hr (pa_cons (pe_ix ixL (pv 0) pe_int (fun _ _ => rfl)) (pa_cons (pe_ix ixL (pv 0) pe_int (fun _ _ => rfl)) pa_nil))))))))
        (pss_one (ps_ret (pe_op op_mod (pe_callTy cr_int (by rfl) T.int (by decide +kernel) (pa_cons (pv 2) pa_nil)) (pv 1))))))), ?_⟩
    have e0 : start N_LawRandom [.ref g, .int n] = [some (.ref g), some (.int n), none, none] := rfl
    rw [e0]
    simp only [cxK, wipe, tYes, List.map_cons, List.map_nil, rIxL, rSum, tSl, rSlL, tNoPart, tPart, exists_and_left, and_assoc, V.ref.injEq, HO.lst.injEq, HO.tup.injEq, tFor_eq, iRng1, iRng2, iList, iTup, tLc_eq, tLst, tTup, gSub, rSetL, gT, gL, gTup, gCons, gNil, atI_0, atI_1, atI_2, atI_3, List.length_cons, List.length_nil, Nat.zero_add, Nat.reduceAdd, Nat.reduceLeDiff, ixN_30, ixN_31, ixN_32, Int.reduceLT, Int.reduceLE, Int.reduceNeg, upd_same, reduceCtorEq, false_and, exists_false, or_false, false_or, tSeq, tNext, tIfS, tRet, tRetN, tDrop, tAsg, gName, tPar, tPar3, tAug, ipI, tVar, tC, tOp, tUn, tCB, tD, tDK, tCons, tNil, rI, rI0, rU, tB, tTest, tAnd, tOr, tNot, tAndV, tOrV, tNotV, tIf, rEq, rNe, scal_ii, scal_bb, scal_ss, rGcd_eq, tBits, List.set_cons_zero, List.set_cons_succ, List.getElem?_cons_zero, List.getElem?_cons_succ, Option.some.injEq, exists_eq_left', V.int.injEq, V.bl.injEq, V.str.injEq, true_and, and_true, decide_eq_true_eq, List.cons.injEq, exists_eq_left, Bool.false_eq_true, if_false, if_true, ite_true, ite_false, Bool.not_eq_true', decide_eq_false_iff_not, Bool.not_not, hg]
    refine ite2 (fun hp => ?_) (fun hp => ?_)
    · refine ⟨by omega, cdiv (by omega) (by omega) (by omega), ?_⟩
      refine kk _ _ (Int.emod_nonneg _ (by omega)) (Int.emod_lt_of_pos _ (by omega)) ⟨a.fdiv n, b, c, upd_same, ?_, ?_, hb0, hb1, hc0, by omega⟩ (fun x u hx e => by rw [upd_ne hx]; exact e)
      · exact Int.fdiv_nonneg ha0 (by omega)
      · have h1 : a.fdiv n ≤ a := by
          rw [Int.fdiv_eq_ediv_of_nonneg a (by omega)]
          exact Int.ediv_le_self n ha0
        omega
    · have hib : Builtin.Int.intBits n ≤ 300 := PyProof.Rows.intBits_le (by omega)
      have hq : (0 : Int) ≤ (((Builtin.Int.intBits n : Nat) : Int).fdiv 30) ∧ (((Builtin.Int.intBits n : Nat) : Int).fdiv 30) ≤ 10 := by
        rw [Int.fdiv_eq_ediv_of_nonneg _ (by omega)]
        omega
      generalize hqe : (((Builtin.Int.intBits n : Nat) : Int).fdiv 30) = q at hq
      refine ⟨cdiv (by omega) (by omega) (by omega), by omega, by omega, ?_⟩
      refine forW_range (InvRandom g n k H) ⟨0, none, rfl, hG, Keep.refl _ _⟩ ?_ ?_
      · rintro i σ' H' hi ⟨d, t, rfl, ⟨a2, b2, c2, hg2, p1, p2, p3, p4, p5, p6⟩, kp⟩
        simp only [cxK, wipe, tYes, List.map_cons, List.map_nil, rIxL, rSum, tSl, rSlL, tNoPart, tPart, exists_and_left, and_assoc, V.ref.injEq, HO.lst.injEq, HO.tup.injEq, tFor_eq, iRng1, iRng2, iList, iTup, tLc_eq, tLst, tTup, gSub, rSetL, gT, gL, gTup, gCons, gNil, atI_0, atI_1, atI_2, atI_3, List.length_cons, List.length_nil, Nat.zero_add, Nat.reduceAdd, Nat.reduceLeDiff, ixN_30, ixN_31, ixN_32, Int.reduceLT, Int.reduceLE, Int.reduceNeg, upd_same, reduceCtorEq, false_and, exists_false, or_false, false_or, tSeq, tNext, tIfS, tRet, tRetN, tDrop, tAsg, gName, tPar, tPar3, tAug, ipI, tVar, tC, tOp, tUn, tCB, tD, tDK, tCons, tNil, rI, rI0, rU, tB, tTest, tAnd, tOr, tNot, tAndV, tOrV, tNotV, tIf, rEq, rNe, scal_ii, scal_bb, scal_ss, rGcd_eq, tBits, List.set_cons_zero, List.set_cons_succ, List.getElem?_cons_zero, List.getElem?_cons_succ, Option.some.injEq, exists_eq_left', V.int.injEq, V.bl.injEq, V.str.injEq, true_and, and_true, decide_eq_true_eq, List.cons.injEq, exists_eq_left, Bool.false_eq_true, if_false, if_true, ite_true, ite_false, Bool.not_eq_true', decide_eq_false_iff_not, Bool.not_not, hg2]
        unfold spHash
        refine ⟨cmr (by decide) (by decide), b2, c2 + 1, rfl, p3, p4, by omega, by omega, fun hh q1 q2 => ?_⟩
        simp only [cxK, wipe, tYes, List.map_cons, List.map_nil, rIxL, rSum, tSl, rSlL, tNoPart, tPart, exists_and_left, and_assoc, V.ref.injEq, HO.lst.injEq, HO.tup.injEq, tFor_eq, iRng1, iRng2, iList, iTup, tLc_eq, tLst, tTup, gSub, rSetL, gT, gL, gTup, gCons, gNil, atI_0, atI_1, atI_2, atI_3, List.length_cons, List.length_nil, Nat.zero_add, Nat.reduceAdd, Nat.reduceLeDiff, ixN_30, ixN_31, ixN_32, Int.reduceLT, Int.reduceLE, Int.reduceNeg, upd_same, reduceCtorEq, false_and, exists_false, or_false, false_or, tSeq, tNext, tIfS, tRet, tRetN, tDrop, tAsg, gName, tPar, tPar3, tAug, ipI, tVar, tC, tOp, tUn, tCB, tD, tDK, tCons, tNil, rI, rI0, rU, tB, tTest, tAnd, tOr, tNot, tAndV, tOrV, tNotV, tIf, rEq, rNe, scal_ii, scal_bb, scal_ss, rGcd_eq, tBits, List.set_cons_zero, List.set_cons_succ, List.getElem?_cons_zero, List.getElem?_cons_succ, Option.some.injEq, exists_eq_left', V.int.injEq, V.bl.injEq, V.str.injEq, true_and, and_true, decide_eq_true_eq, List.cons.injEq, exists_eq_left, Bool.false_eq_true, if_false, if_true, ite_true, ite_false, Bool.not_eq_true', decide_eq_false_iff_not, Bool.not_not]
        refine ⟨_, some (.int (0 + (i : Int))), rfl, ⟨a2, b2, c2 + 1, upd_same, p1, p2, p3, p4, by omega, by omega⟩, fun x u hx e => ?_⟩
        rw [upd_ne hx]
        exact kp x u hx e
      · rintro σ' H' ⟨d, t, rfl, gA, kp⟩
        simp only [cxK, wipe, tYes, List.map_cons, List.map_nil, rIxL, rSum, tSl, rSlL, tNoPart, tPart, exists_and_left, and_assoc, V.ref.injEq, HO.lst.injEq, HO.tup.injEq, tFor_eq, iRng1, iRng2, iList, iTup, tLc_eq, tLst, tTup, gSub, rSetL, gT, gL, gTup, gCons, gNil, atI_0, atI_1, atI_2, atI_3, List.length_cons, List.length_nil, Nat.zero_add, Nat.reduceAdd, Nat.reduceLeDiff, ixN_30, ixN_31, ixN_32, Int.reduceLT, Int.reduceLE, Int.reduceNeg, upd_same, reduceCtorEq, false_and, exists_false, or_false, false_or, tSeq, tNext, tIfS, tRet, tRetN, tDrop, tAsg, gName, tPar, tPar3, tAug, ipI, tVar, tC, tOp, tUn, tCB, tD, tDK, tCons, tNil, rI, rI0, rU, tB, tTest, tAnd, tOr, tNot, tAndV, tOrV, tNotV, tIf, rEq, rNe, scal_ii, scal_bb, scal_ss, rGcd_eq, tBits, List.set_cons_zero, List.set_cons_succ, List.getElem?_cons_zero, List.getElem?_cons_succ, Option.some.injEq, exists_eq_left', V.int.injEq, V.bl.injEq, V.str.injEq, true_and, and_true, decide_eq_true_eq, List.cons.injEq, exists_eq_left, Bool.false_eq_true, if_false, if_true, ite_true, ite_false, Bool.not_eq_true', decide_eq_false_iff_not, Bool.not_not]
        exact ⟨by omega, kk _ _ (Int.emod_nonneg _ (by omega)) (Int.emod_lt_of_pos _ (by omega)) (gA.mono (by omega)) kp⟩

theorem okLawCell {f : Addr} {fd : FuncData} (F : Fun K "_law_cell" "_law_cell" s_LawCell f fd) (T : Txt K mg) : FnOk P w K mg base CX0 1 f fd ["_law_script", "_law_index"] (spCell K) := by
  refine F.ok scLawCell (fun vs H Q E h => ?_) (fun cdv A outer s H vs Q E hr h => ?_)
  · obtain ⟨a, ns, i, rfl, _⟩ := h
    rfl
  · obtain ⟨a, ns, i, rfl, hS, h0, h1, kk⟩ := h
    refine ⟨_, (pss_cons (ps_if (pt_cmpR op_lt (pv 1) (pe_callB call_len_seq (by rfl) T.len (by decide +kernel) (pa_cons (pv 0) pa_nil)) (nomark _)) (pss_one (ps_ret (pe_ix ix_list (pv 0) (pv 1) (fun _ _ => rfl)))) pss_nil)
        (pss_one (ps_ret (pe_op op_mod (pe_callB (cr_sum rfl) (by rfl) T.sum (by decide +kernel) (pa_cons (pe_slice sl_list (pv 0) po_none (po_some pe_int)) pa_nil)) pe_int)))), ?_⟩
    have e0 : start N_LawCell [.ref a, .int i] = [some (.ref a), some (.int i)] := rfl
    rw [e0]
    simp only [cxK, wipe, tYes, List.map_cons, List.map_nil, rIxL, rSum, tSl, rSlL, tNoPart, tPart, exists_and_left, and_assoc, V.ref.injEq, HO.lst.injEq, HO.tup.injEq, tFor_eq, iRng1, iRng2, iList, iTup, tLc_eq, tLst, tTup, gSub, rSetL, gT, gL, gTup, gCons, gNil, atI_0, atI_1, atI_2, atI_3, List.length_cons, List.length_nil, Nat.zero_add, Nat.reduceAdd, Nat.reduceLeDiff, ixN_30, ixN_31, ixN_32, Int.reduceLT, Int.reduceLE, Int.reduceNeg, upd_same, reduceCtorEq, false_and, exists_false, or_false, false_or, tSeq, tNext, tIfS, tRet, tRetN, tDrop, tAsg, gName, tPar, tPar3, tAug, ipI, tVar, tC, tOp, tUn, tCB, tD, tDK, tCons, tNil, rI, rI0, rU, tB, tTest, tAnd, tOr, tNot, tAndV, tOrV, tNotV, tIf, rEq, rNe, scal_ii, scal_bb, scal_ss, rGcd_eq, tBits, List.set_cons_zero, List.set_cons_succ, List.getElem?_cons_zero, List.getElem?_cons_succ, Option.some.injEq, exists_eq_left', V.int.injEq, V.bl.injEq, V.str.injEq, true_and, and_true, decide_eq_true_eq, List.cons.injEq, exists_eq_left, Bool.false_eq_true, if_false, if_true, ite_true, ite_false, Bool.not_eq_true', decide_eq_false_iff_not, Bool.not_not]
    refine ⟨ns.map V.int, .inl hS, ite2 (fun hp => ?_) (fun hp => ?_)⟩
    · have hi : i.toNat < ns.length := by rw [List.length_map] at hp; omega
      refine ⟨ns.map V.int, hS, .int (ns[i.toNat]), ?_, kk _ _ (Same.refl _)⟩
      exact at_of (j := i.toNat) (by omega) (by rw [List.getElem?_map, List.getElem?_eq_getElem hi]; rfl)
    · refine ⟨ns.map V.int, hS, fun p np => ⟨ns.take 1, .inl (.inl ?_), kk _ _ (Same.upd np)⟩⟩
      rw [upd_same, cut1, List.map_take]

theorem okLawGenerator {f : Addr} {fd : FuncData} (F : Fun K "_law_generator" "_law_generator" s_LawGenerator f fd) (T : Txt K mg) {fLawCell : Addr} {fdLawCell : FuncData} (D_LawCell : DefAt P w K mg base 1 "_law_cell" fLawCell fdLawCell ["_law_script", "_law_index"] (spCell K)) : FnOk P w K mg base CX0 2 f fd ["_law_script", "_law_index"] (spGen K) := by
  refine F.ok scLawGenerator (fun vs H Q E h => ?_) (fun cdv A outer s H vs Q E hr h => ?_)
  · obtain ⟨a, ns, i, rfl, _⟩ := h
    rfl
  · obtain ⟨a, ns, i, rfl, hS, h0, h1, kk⟩ := h
    refine ⟨_, (pss_cons (ps_set (i := 2) scLawGenerator.nd rfl (Or.inl rfl) (pe_d D_LawCell hr (pa_cons (pv 0) (pa_cons (pv 1) pa_nil))))
        (pss_one (ps_ret (pe_lst (pa_cons (pe_op op_mod (pe_callTy cr_int (by rfl) T.int (by decide +kernel) (pa_cons (pe_callB (call_max2 rfl) (by rfl) T.max (by decide +kernel) (pa_cons (pe_op op_sub (pv 2) (pe_op op_powX pe_int pe_int)) (pa_cons pe_int pa_nil))) pa_nil)) (pe_op op_powX (pe_op op_powX pe_int pe_int) pe_int)) (pa_cons (pe_op op_mod (pe_callTy cr_int (by rfl) T.int (by decide +kernel) (pa_cons (pv 2) pa_nil)) pe_int) (pa_cons (pe_op op_mulU pe_int (pv 1)) pa_nil))))))), ?_⟩
    have e0 : start N_LawGenerator [.ref a, .int i] = [some (.ref a), some (.int i), none] := rfl
    rw [e0]
    simp only [cxK, wipe, tYes, List.map_cons, List.map_nil, rIxL, rSum, tSl, rSlL, tNoPart, tPart, exists_and_left, and_assoc, V.ref.injEq, HO.lst.injEq, HO.tup.injEq, tFor_eq, iRng1, iRng2, iList, iTup, tLc_eq, tLst, tTup, gSub, rSetL, gT, gL, gTup, gCons, gNil, atI_0, atI_1, atI_2, atI_3, List.length_cons, List.length_nil, Nat.zero_add, Nat.reduceAdd, Nat.reduceLeDiff, ixN_30, ixN_31, ixN_32, Int.reduceLT, Int.reduceLE, Int.reduceNeg, upd_same, reduceCtorEq, false_and, exists_false, or_false, false_or, tSeq, tNext, tIfS, tRet, tRetN, tDrop, tAsg, gName, tPar, tPar3, tAug, ipI, tVar, tC, tOp, tUn, tCB, tD, tDK, tCons, tNil, rI, rI0, rU, tB, tTest, tAnd, tOr, tNot, tAndV, tOrV, tNotV, tIf, rEq, rNe, scal_ii, scal_bb, scal_ss, rGcd_eq, tBits, List.set_cons_zero, List.set_cons_succ, List.getElem?_cons_zero, List.getElem?_cons_succ, Option.some.injEq, exists_eq_left', V.int.injEq, V.bl.injEq, V.str.injEq, true_and, and_true, decide_eq_true_eq, List.cons.injEq, exists_eq_left, Bool.false_eq_true, if_false, if_true, ite_true, ite_false, Bool.not_eq_true', decide_eq_false_iff_not, Bool.not_not]
    have hm : (0 : Int) < (10 ^ Int.toNat 60) ^ Int.toNat 10 := by decide +kernel
    have hm2 : ((10 : Int) ^ Int.toNat 60) ^ Int.toNat 10 < 2 ^ 2000 := by decide +kernel
    have hm3 : -(2 ^ 2500) < (10 : Int) ^ Int.toNat 60 := by decide +kernel
    have hm4 : (10 : Int) ^ Int.toNat 60 < 2 ^ 2500 := by decide +kernel
    refine ⟨a, ns, i, rfl, hS, h0, h1, fun r H1 s1 => ⟨cpow (by decide) (by decide) (by decide) (by decide), r, rfl, cpow (by decide) (by decide) (by decide) (by decide), cpow (by decide) (by decide) hm3 hm4, hm, r, rfl, cml (by decide) (by decide), by decide, fun p np => ?_⟩⟩
    refine kk p _ (s1.free np) (s1.trans (Same.upd np)) ⟨_, _, _, upd_same, Int.emod_nonneg _ (by omega), Int.lt_trans (Int.emod_lt_of_pos _ hm) hm2, by omega, by omega, by omega, by omega⟩

def InvCommon (a b : Int) (H : Hp) : SV → Hp → Prop := fun σ H2 => ∃ x y : Int, σ = [some (.int x), some (.int y)] ∧ 0 ≤ x ∧ 0 ≤ y ∧ gcdI x y = gcdI a b ∧ H2 = H

theorem okLawCommon {f : Addr} {fd : FuncData} (F : Fun K "_law_common" "_law_common" s_LawCommon f fd) (T : Txt K mg) : FnOk P w K mg base CX0 1 f fd ["_law_one", "_law_other"] (spCommon) := by
  refine F.ok scLawCommon (fun vs H Q E h => ?_) (fun cdv A outer s H vs Q E hr h => ?_)
  · obtain ⟨a, b, rfl, _⟩ := h
    rfl
  · obtain ⟨a, b, rfl, kk⟩ := h
    refine ⟨_, (pss_cons (ps_par (i := 0) (j := 1) rfl scLawCommon.nd rfl rfl (by decide) rfl rfl (pa_cons (pe_callB call_abs (by rfl) T.abs (by decide +kernel) (pa_cons (pv 0) pa_nil)) (pa_cons (pe_callB call_abs (by rfl) T.abs (by decide +kernel) (pa_cons (pv 1) pa_nil)) pa_nil)) rfl)
        (pss_cons (ps_while PassesOwn.never (pt_cmpR op_ne (pv 1) pe_int (nomark _)) (pss_one (ps_par (i := 0) (j := 1) rfl scLawCommon.nd rfl rfl (by decide) rfl rfl (pa_cons (pv 1) (pa_cons (pe_op op_mod (pe_callTy cr_int (by rfl) T.int (by decide +kernel) (pa_cons (pv 0) pa_nil)) (pv 1)) pa_nil)) rfl)))
        (pss_one (ps_ret (pv 0))))), ?_⟩
    have e0 : start N_LawCommon [.int a, .int b] = [some (.int a), some (.int b)] := rfl
    rw [e0]
    simp only [cxK, wipe, tYes, List.map_cons, List.map_nil, rIxL, rSum, tSl, rSlL, tNoPart, tPart, exists_and_left, and_assoc, V.ref.injEq, HO.lst.injEq, HO.tup.injEq, tFor_eq, iRng1, iRng2, iList, iTup, tLc_eq, tLst, tTup, gSub, rSetL, gT, gL, gTup, gCons, gNil, atI_0, atI_1, atI_2, atI_3, List.length_cons, List.length_nil, Nat.zero_add, Nat.reduceAdd, Nat.reduceLeDiff, ixN_30, ixN_31, ixN_32, Int.reduceLT, Int.reduceLE, Int.reduceNeg, upd_same, reduceCtorEq, false_and, exists_false, or_false, false_or, tSeq, tNext, tIfS, tRet, tRetN, tDrop, tAsg, gName, tPar, tPar3, tAug, ipI, tVar, tC, tOp, tUn, tCB, tD, tDK, tCons, tNil, rI, rI0, rU, tB, tTest, tAnd, tOr, tNot, tAndV, tOrV, tNotV, tIf, rEq, rNe, scal_ii, scal_bb, scal_ss, rGcd_eq, tBits, List.set_cons_zero, List.set_cons_succ, List.getElem?_cons_zero, List.getElem?_cons_succ, Option.some.injEq, exists_eq_left', V.int.injEq, V.bl.injEq, V.str.injEq, true_and, and_true, decide_eq_true_eq, List.cons.injEq, exists_eq_left, Bool.false_eq_true, if_false, if_true, ite_true, ite_false, Bool.not_eq_true', decide_eq_false_iff_not, Bool.not_not]
    refine whileI (InvCommon a b H) (fun σ _ => slotN σ 1) ⟨_, _, rfl, by split <;> omega, by split <;> omega, gcdI_abs a b, rfl⟩ ?_
    rintro σ' H' ⟨x, y, rfl, hx, hy, e, rfl⟩
    simp only [cxK, wipe, tYes, List.map_cons, List.map_nil, rIxL, rSum, tSl, rSlL, tNoPart, tPart, exists_and_left, and_assoc, V.ref.injEq, HO.lst.injEq, HO.tup.injEq, tFor_eq, iRng1, iRng2, iList, iTup, tLc_eq, tLst, tTup, gSub, rSetL, gT, gL, gTup, gCons, gNil, atI_0, atI_1, atI_2, atI_3, List.length_cons, List.length_nil, Nat.zero_add, Nat.reduceAdd, Nat.reduceLeDiff, ixN_30, ixN_31, ixN_32, Int.reduceLT, Int.reduceLE, Int.reduceNeg, upd_same, reduceCtorEq, false_and, exists_false, or_false, false_or, tSeq, tNext, tIfS, tRet, tRetN, tDrop, tAsg, gName, tPar, tPar3, tAug, ipI, tVar, tC, tOp, tUn, tCB, tD, tDK, tCons, tNil, rI, rI0, rU, tB, tTest, tAnd, tOr, tNot, tAndV, tOrV, tNotV, tIf, rEq, rNe, scal_ii, scal_bb, scal_ss, rGcd_eq, tBits, List.set_cons_zero, List.set_cons_succ, List.getElem?_cons_zero, List.getElem?_cons_succ, Option.some.injEq, exists_eq_left', V.int.injEq, V.bl.injEq, V.str.injEq, true_and, and_true, decide_eq_true_eq, List.cons.injEq, exists_eq_left, Bool.false_eq_true, if_false, if_true, ite_true, ite_false, Bool.not_eq_true', decide_eq_false_iff_not, Bool.not_not]
    by_cases h : y = 0
    · subst h
      rw [if_neg (by simp)]
      rw [gcdI_zero hx] at e
      rw [e]
      exact kk
    · rw [if_pos (by simpa using h)]
      refine wstep ?_
      simp only [cxK, wipe, tYes, List.map_cons, List.map_nil, rIxL, rSum, tSl, rSlL, tNoPart, tPart, exists_and_left, and_assoc, V.ref.injEq, HO.lst.injEq, HO.tup.injEq, tFor_eq, iRng1, iRng2, iList, iTup, tLc_eq, tLst, tTup, gSub, rSetL, gT, gL, gTup, gCons, gNil, atI_0, atI_1, atI_2, atI_3, List.length_cons, List.length_nil, Nat.zero_add, Nat.reduceAdd, Nat.reduceLeDiff, ixN_30, ixN_31, ixN_32, Int.reduceLT, Int.reduceLE, Int.reduceNeg, upd_same, reduceCtorEq, false_and, exists_false, or_false, false_or, tSeq, tNext, tIfS, tRet, tRetN, tDrop, tAsg, gName, tPar, tPar3, tAug, ipI, tVar, tC, tOp, tUn, tCB, tD, tDK, tCons, tNil, rI, rI0, rU, tB, tTest, tAnd, tOr, tNot, tAndV, tOrV, tNotV, tIf, rEq, rNe, scal_ii, scal_bb, scal_ss, rGcd_eq, tBits, List.set_cons_zero, List.set_cons_succ, List.getElem?_cons_zero, List.getElem?_cons_succ, Option.some.injEq, exists_eq_left', V.int.injEq, V.bl.injEq, V.str.injEq, true_and, and_true, decide_eq_true_eq, List.cons.injEq, exists_eq_left, Bool.false_eq_true, if_false, if_true, ite_true, ite_false, Bool.not_eq_true', decide_eq_false_iff_not, Bool.not_not]
      refine ⟨by omega, ⟨y, x % y, rfl, hy, Int.emod_nonneg _ (by omega), (gcdI_step hx (by omega)).trans e, rfl⟩, ?_⟩
      show (x % y).toNat < y.toNat
      have := Int.emod_lt_of_pos x (show 0 < y by omega)
      omega

theorem okIsWhole {f : Addr} {fd : FuncData} (F : Fun K "is_whole" "is_whole" s_IsWhole f fd) (T : Txt K mg) : FnOk P w K mg base CX0 1 f fd ["value"] (spWhole) := by
  refine F.ok scIsWhole (fun vs H Q E h => ?_) (fun cdv A outer s H vs Q E hr h => ?_)
  · obtain ⟨x, rfl, _⟩ := h
    rfl
  · obtain ⟨x, rfl, ⟨t, ht⟩, kk⟩ := h
    refine ⟨_, (pss_one (ps_ret (pe_and (pe_callB call_isi (by rfl) T.isinstance (by decide +kernel) (pa_cons (pv 0) (pa_cons (pe_bltn (v := .ty "int") (u := .type "int") (by rfl) T.int (by decide +kernel) rfl) pa_nil))) (pe_one (pe_not (pe_callB call_isi (by rfl) T.isinstance (by decide +kernel) (pa_cons (pv 0) (pa_cons (pe_bltn (v := .ty "bool") (u := .type "bool") (by rfl) T.bool (by decide +kernel) rfl) pa_nil)))))))), ?_⟩
    have e0 : start N_IsWhole [x] = [some x] := rfl
    rw [e0]
    obtain ⟨ty, hm, hi⟩ := tyS_of (K := K) ht
    simp only [cxK, wipe, tYes, List.map_cons, List.map_nil, rIxL, rSum, tSl, rSlL, tNoPart, tPart, exists_and_left, and_assoc, V.ref.injEq, HO.lst.injEq, HO.tup.injEq, tFor_eq, iRng1, iRng2, iList, iTup, tLc_eq, tLst, tTup, gSub, rSetL, gT, gL, gTup, gCons, gNil, atI_0, atI_1, atI_2, atI_3, List.length_cons, List.length_nil, Nat.zero_add, Nat.reduceAdd, Nat.reduceLeDiff, ixN_30, ixN_31, ixN_32, Int.reduceLT, Int.reduceLE, Int.reduceNeg, upd_same, reduceCtorEq, false_and, exists_false, or_false, false_or, tSeq, tNext, tIfS, tRet, tRetN, tDrop, tAsg, gName, tPar, tPar3, tAug, ipI, tVar, tC, tOp, tUn, tCB, tD, tDK, tCons, tNil, rI, rI0, rU, tB, tTest, tAnd, tOr, tNot, tAndV, tOrV, tNotV, tIf, rEq, rNe, scal_ii, scal_bb, scal_ss, rGcd_eq, tBits, List.set_cons_zero, List.set_cons_succ, List.getElem?_cons_zero, List.getElem?_cons_succ, Option.some.injEq, exists_eq_left', V.int.injEq, V.bl.injEq, V.str.injEq, true_and, and_true, decide_eq_true_eq, List.cons.injEq, exists_eq_left, Bool.false_eq_true, if_false, if_true, ite_true, ite_false, Bool.not_eq_true', decide_eq_false_iff_not, Bool.not_not]
    simp only [List.mem_cons, List.not_mem_nil, or_false] at hm
    rw [hi] at kk
    rcases hm with rfl | rfl | rfl | rfl | rfl | rfl | rfl
    all_goals first
      | (refine rIsi_ty (b := true) ht (by decide +kernel) ?_; refine ⟨true, rfl, iteT ?_⟩; refine rIsi_ty (b := false) ht (by decide +kernel) ?_; exact ⟨false, rfl, kk⟩)
      | (refine rIsi_ty (b := true) ht (by decide +kernel) ?_; refine ⟨true, rfl, iteT ?_⟩; refine rIsi_ty (b := true) ht (by decide +kernel) ?_; exact ⟨true, rfl, kk⟩)
      | (refine rIsi_ty (b := false) ht (by decide +kernel) ?_; refine ⟨false, rfl, iteF kk⟩)

def InvWholes (H : Hp) (D : Addr) (xs : List V) : Nat → Hp → Prop := fun i H2 => Same H H2 ∧ H2 D = some (.lst ((xs.take i).map fun x => .bl (isIntV x)))

theorem okAreWholes {f : Addr} {fd : FuncData} (F : Fun K "are_wholes" "are_wholes" s_AreWholes f fd) (T : Txt K mg) {fIsWhole : Addr} {fdIsWhole : FuncData} (D_IsWhole : DefAt P w K mg base 1 "is_whole" fIsWhole fdIsWhole ["value"] (spWhole)) : FnOk P w K mg base CX0 2 f fd ["value", "many"] (spWholes) := by
  refine F.ok scAreWholes (fun vs H Q E h => ?_) (fun cdv A outer s H vs Q E hr h => ?_)
  · obtain ⟨x, m, rfl, _⟩ := h
    rfl
  · obtain ⟨x, m, rfl, hm, ⟨hO, hI⟩, kk⟩ := h
    refine ⟨_, (pss_cons (ps_if (PW.pt (pw_or (pt_not (pt_val (pe_callB call_isi (by rfl) T.isinstance (by decide +kernel) (pa_cons (pv 0) (pa_cons (pe_bltn (v := .ty "tuple") (u := .type "tuple") (by rfl) T.tuple (by decide +kernel) rfl) pa_nil))))) (pw_or1 (pt_cmpR op_ne (pe_callB lenT (by rfl) T.len (by decide +kernel) (pa_cons (pv 0) pa_nil)) (pv 1) (nomark _))))) (pss_one (ps_ret pe_bl)) pss_nil)
        (pss_one (ps_ret (pe_callB (cr_all rfl) (by rfl) T.all (by decide +kernel) (pa_cons (pe_lc (own := [("item", 2)]) (g := gName 2) (tt := tYes) rfl scAreWholes.nd (pi_tup (pv 0)) (blkOk_by (N := N_AreWholes) (sc := defScope s_AreWholes) (by decide +kernel)) (fun _ _ _ _ _ => pg_name (i := 2) scAreWholes.nd rfl (Or.inl rfl)) (fun _ _ _ _ _ => pts_nil) (fun _ _ _ _ _ => (pe_d D_IsWhole hr (pa_cons (pv 2) pa_nil)))) pa_nil))))), ?_⟩
    have e0 : start N_AreWholes [x, .int m] = [some x, some (.int m), none] := rfl
    rw [e0]
    simp only [cxK, wipe, tYes, List.map_cons, List.map_nil, rIxL, rSum, tSl, rSlL, tNoPart, tPart, exists_and_left, and_assoc, V.ref.injEq, HO.lst.injEq, HO.tup.injEq, tFor_eq, iRng1, iRng2, iList, iTup, tLc_eq, tLst, tTup, gSub, rSetL, gT, gL, gTup, gCons, gNil, atI_0, atI_1, atI_2, atI_3, List.length_cons, List.length_nil, Nat.zero_add, Nat.reduceAdd, Nat.reduceLeDiff, ixN_30, ixN_31, ixN_32, Int.reduceLT, Int.reduceLE, Int.reduceNeg, upd_same, reduceCtorEq, false_and, exists_false, or_false, false_or, tSeq, tNext, tIfS, tRet, tRetN, tDrop, tAsg, gName, tPar, tPar3, tAug, ipI, tVar, tC, tOp, tUn, tCB, tD, tDK, tCons, tNil, rI, rI0, rU, tB, tTest, tAnd, tOr, tNot, tAndV, tOrV, tNotV, tIf, rEq, rNe, scal_ii, scal_bb, scal_ss, rGcd_eq, tBits, List.set_cons_zero, List.set_cons_succ, List.getElem?_cons_zero, List.getElem?_cons_succ, Option.some.injEq, exists_eq_left', V.int.injEq, V.bl.injEq, V.str.injEq, true_and, and_true, decide_eq_true_eq, List.cons.injEq, exists_eq_left, Bool.false_eq_true, if_false, if_true, ite_true, ite_false, Bool.not_eq_true', decide_eq_false_iff_not, Bool.not_not]
    rcases any_tuple K hO with ⟨t, ht, hb, hne⟩ | ⟨a, xs, rfl, ha⟩
    · refine rIsi_ty ht hb ⟨false, rfl, ?_⟩
      rw [if_pos rfl]
      rw [wholes_not ht hne] at kk
      exact kk _ (Same.refl _)
    · refine rIsi_ty (b := true) (tyS_tup ha) (by decide +kernel) ⟨true, rfl, ?_⟩
      rw [if_neg (by decide)]
      rw [wholes_tup ha] at kk
      simp only [cxK, wipe, tYes, List.map_cons, List.map_nil, rIxL, rSum, tSl, rSlL, tNoPart, tPart, exists_and_left, and_assoc, V.ref.injEq, HO.lst.injEq, HO.tup.injEq, tFor_eq, iRng1, iRng2, iList, iTup, tLc_eq, tLst, tTup, gSub, rSetL, gT, gL, gTup, gCons, gNil, atI_0, atI_1, atI_2, atI_3, List.length_cons, List.length_nil, Nat.zero_add, Nat.reduceAdd, Nat.reduceLeDiff, ixN_30, ixN_31, ixN_32, Int.reduceLT, Int.reduceLE, Int.reduceNeg, upd_same, reduceCtorEq, false_and, exists_false, or_false, false_or, tSeq, tNext, tIfS, tRet, tRetN, tDrop, tAsg, gName, tPar, tPar3, tAug, ipI, tVar, tC, tOp, tUn, tCB, tD, tDK, tCons, tNil, rI, rI0, rU, tB, tTest, tAnd, tOr, tNot, tAndV, tOrV, tNotV, tIf, rEq, rNe, scal_ii, scal_bb, scal_ss, rGcd_eq, tBits, List.set_cons_zero, List.set_cons_succ, List.getElem?_cons_zero, List.getElem?_cons_succ, Option.some.injEq, exists_eq_left', V.int.injEq, V.bl.injEq, V.str.injEq, true_and, and_true, decide_eq_true_eq, List.cons.injEq, exists_eq_left, Bool.false_eq_true, if_false, if_true, ite_true, ite_false, Bool.not_eq_true', decide_eq_false_iff_not, Bool.not_not, ha]
      refine ite2 (fun hn => ?_) (fun hn => ?_)
      · rw [decide_eq_false hn, Bool.false_and] at kk
        exact kk _ (Same.refl _)
      · have hn2 := Decidable.not_not.mp hn
        rw [decide_eq_true hn2, Bool.true_and] at kk
        refine ⟨⟨_, SqT.of ha⟩, fun Dd nD => ?_⟩
        refine lcW_tup (xs := xs) (InvWholes H Dd xs) ⟨Same.upd nD, upd_same⟩ (fun i H2 _ z => SqT.of (z.1 _ _ ha)) ?_ ?_
        · rintro i x H2 hx ⟨s2, e2⟩
          refine ⟨rfl, ?_⟩
          have hmem : x ∈ xs := List.mem_of_getElem? hx
          simp only [cxK, wipe, tYes, List.map_cons, List.map_nil, rIxL, rSum, tSl, rSlL, tNoPart, tPart, exists_and_left, and_assoc, V.ref.injEq, HO.lst.injEq, HO.tup.injEq, tFor_eq, iRng1, iRng2, iList, iTup, tLc_eq, tLst, tTup, gSub, rSetL, gT, gL, gTup, gCons, gNil, atI_0, atI_1, atI_2, atI_3, List.length_cons, List.length_nil, Nat.zero_add, Nat.reduceAdd, Nat.reduceLeDiff, ixN_30, ixN_31, ixN_32, Int.reduceLT, Int.reduceLE, Int.reduceNeg, upd_same, reduceCtorEq, false_and, exists_false, or_false, false_or, tSeq, tNext, tIfS, tRet, tRetN, tDrop, tAsg, gName, tPar, tPar3, tAug, ipI, tVar, tC, tOp, tUn, tCB, tD, tDK, tCons, tNil, rI, rI0, rU, tB, tTest, tAnd, tOr, tNot, tAndV, tOrV, tNotV, tIf, rEq, rNe, scal_ii, scal_bb, scal_ss, rGcd_eq, tBits, List.set_cons_zero, List.set_cons_succ, List.getElem?_cons_zero, List.getElem?_cons_succ, Option.some.injEq, exists_eq_left', V.int.injEq, V.bl.injEq, V.str.injEq, true_and, and_true, decide_eq_true_eq, List.cons.injEq, exists_eq_left, Bool.false_eq_true, if_false, if_true, ite_true, ite_false, Bool.not_eq_true', decide_eq_false_iff_not, Bool.not_not]
          refine ⟨x, rfl, (hI a xs rfl ha x hmem).same s2, ?_⟩
          refine ⟨_, e2, small1000 ?_, Same.upd2 s2 nD, ?_⟩
          · rw [List.length_map, List.length_take]
            omega
          · have e3 : xs.take (i + 1) = xs.take i ++ [x] := by rw [List.take_succ, hx]; rfl
            rw [upd_same, e3, List.map_append]
            rfl
        · rintro H2 ⟨s2, e2⟩
          refine ⟨Dd, xs.map isIntV, rfl, SqL.of ?_, ?_⟩
          · rw [e2, List.take_length, List.map_map]
            rfl
          · rw [List.all_map]
            exact kk _ s2

theorem okIsMeasure {f : Addr} {fd : FuncData} (F : Fun K "is_measure" "is_measure" s_IsMeasure f fd) (T : Txt K mg) {fIsWhole : Addr} {fdIsWhole : FuncData} (D_IsWhole : DefAt P w K mg base 1 "is_whole" fIsWhole fdIsWhole ["value"] (spWhole)) : FnOk P w K mg base CX0 2 f fd ["value"] (spIsMeasure) := by
  refine F.ok scIsMeasure (fun vs H Q E h => ?_) (fun cdv A outer s H vs Q E hr h => ?_)
  · obtain ⟨x, rfl, _⟩ := h
    rfl
  · obtain ⟨x, rfl, hO, kk⟩ := h
    refine ⟨_, (pss_one (ps_ret (pe_and (pe_d D_IsWhole hr (pa_cons (pv 0) pa_nil)) (pe_and (pe_cmpR op_ge (pv 0) pe_int (nomark _)) (pe_one (pe_cmpR op_lt (pe_op op_mod (pv 0) pe_int) pe_int (nomark _))))))), ?_⟩
    have e0 : start N_IsMeasure [x] = [some x] := rfl
    rw [e0]
    simp only [cxK, wipe, tYes, List.map_cons, List.map_nil, rIxL, rSum, tSl, rSlL, tNoPart, tPart, exists_and_left, and_assoc, V.ref.injEq, HO.lst.injEq, HO.tup.injEq, tFor_eq, iRng1, iRng2, iList, iTup, tLc_eq, tLst, tTup, gSub, rSetL, gT, gL, gTup, gCons, gNil, atI_0, atI_1, atI_2, atI_3, List.length_cons, List.length_nil, Nat.zero_add, Nat.reduceAdd, Nat.reduceLeDiff, ixN_30, ixN_31, ixN_32, Int.reduceLT, Int.reduceLE, Int.reduceNeg, upd_same, reduceCtorEq, false_and, exists_false, or_false, false_or, tSeq, tNext, tIfS, tRet, tRetN, tDrop, tAsg, gName, tPar, tPar3, tAug, ipI, tVar, tC, tOp, tUn, tCB, tD, tDK, tCons, tNil, rI, rI0, rU, tB, tTest, tAnd, tOr, tNot, tAndV, tOrV, tNotV, tIf, rEq, rNe, scal_ii, scal_bb, scal_ss, rGcd_eq, tBits, List.set_cons_zero, List.set_cons_succ, List.getElem?_cons_zero, List.getElem?_cons_succ, Option.some.injEq, exists_eq_left', V.int.injEq, V.bl.injEq, V.str.injEq, true_and, and_true, decide_eq_true_eq, List.cons.injEq, exists_eq_left, Bool.false_eq_true, if_false, if_true, ite_true, ite_false, Bool.not_eq_true', decide_eq_false_iff_not, Bool.not_not]
    refine ⟨x, rfl, hO, isIntV x, rfl, ?_⟩
    cases x with
    | int i =>
      refine iteT ⟨i, rfl, ite2 (fun h5 => ⟨i, rfl, ?_⟩) (fun h5 => ?_)⟩
      · have e : measB (.int i) = decide (i % 4 < 2) := by rw [measB_int, decide_eq_true h5, Bool.true_and]
        rw [e] at kk
        exact kk
      · have e : measB (.int i) = false := by rw [measB_int, decide_eq_false h5, Bool.false_and]
        rw [e] at kk
        exact kk
    | _ => exact iteF kk

theorem okCheckMeasure {f : Addr} {fd : FuncData} (F : Fun K "check_measure" "check_measure" s_CheckMeasure f fd) (T : Txt K mg) {fIsMeasure : Addr} {fdIsMeasure : FuncData} (D_IsMeasure : DefAt P w K mg base 2 "is_measure" fIsMeasure fdIsMeasure ["value"] (spIsMeasure)) : FnOk P w K mg base CX0 3 f fd ["measure"] (spCheckMeasure0) := by
  refine F.ok scCheckMeasure (fun vs H Q E h => ?_) (fun cdv A outer s H vs Q E hr h => ?_)
  · obtain ⟨D, rfl, _⟩ := h
    rfl
  · obtain ⟨D, rfl, ⟨h1, h2⟩, kk⟩ := h
    refine ⟨_, (pss_one (ps_if (pt_not (pt_val (pe_d D_IsMeasure hr (pa_cons (pv 0) pa_nil)))) (pss_one ps_never) pss_nil)), ?_⟩
    have e0 : start N_CheckMeasure [.int D] = [some (.int D)] := rfl
    rw [e0]
    simp only [cxK, wipe, tYes, List.map_cons, List.map_nil, rIxL, rSum, tSl, rSlL, tNoPart, tPart, exists_and_left, and_assoc, V.ref.injEq, HO.lst.injEq, HO.tup.injEq, tFor_eq, iRng1, iRng2, iList, iTup, tLc_eq, tLst, tTup, gSub, rSetL, gT, gL, gTup, gCons, gNil, atI_0, atI_1, atI_2, atI_3, List.length_cons, List.length_nil, Nat.zero_add, Nat.reduceAdd, Nat.reduceLeDiff, ixN_30, ixN_31, ixN_32, Int.reduceLT, Int.reduceLE, Int.reduceNeg, upd_same, reduceCtorEq, false_and, exists_false, or_false, false_or, tSeq, tNext, tIfS, tRet, tRetN, tDrop, tAsg, gName, tPar, tPar3, tAug, ipI, tVar, tC, tOp, tUn, tCB, tD, tDK, tCons, tNil, rI, rI0, rU, tB, tTest, tAnd, tOr, tNot, tAndV, tOrV, tNotV, tIf, rEq, rNe, scal_ii, scal_bb, scal_ss, rGcd_eq, tBits, List.set_cons_zero, List.set_cons_succ, List.getElem?_cons_zero, List.getElem?_cons_succ, Option.some.injEq, exists_eq_left', V.int.injEq, V.bl.injEq, V.str.injEq, true_and, and_true, decide_eq_true_eq, List.cons.injEq, exists_eq_left, Bool.false_eq_true, if_false, if_true, ite_true, ite_false, Bool.not_eq_true', decide_eq_false_iff_not, Bool.not_not]
    have e : measB (.int D) = true := by rw [measB_int, decide_eq_true h1, decide_eq_true h2]; rfl
    refine ⟨.int D, rfl, ⟨"int", rfl⟩, ?_⟩
    rw [e]
    refine ⟨true, rfl, ?_⟩
    rw [if_neg (by decide)]
    exact kk

theorem okHasWholeRoot {f : Addr} {fd : FuncData} (F : Fun K "_has_whole_root" "_has_whole_root" s_HasWholeRoot f fd) (T : Txt K mg) : FnOk P w K mg base CX0 1 f fd ["measure"] (spHasRoot) := by
  refine F.ok scHasWholeRoot (fun vs H Q E h => ?_) (fun cdv A outer s H vs Q E hr h => ?_)
  · obtain ⟨D, rfl, _⟩ := h
    rfl
  · obtain ⟨D, rfl, h0, h1, kk⟩ := h
    refine ⟨_, (pss_cons (ps_set (i := 1) scHasWholeRoot.nd rfl (Or.inl rfl) (pe_callBfun cr_isqrt (by rfl) T.isqrt (pa_cons (pv 0) pa_nil)))
        (pss_one (ps_ret (pe_cmpR op_eq (pe_op op_mulU (pv 1) (pv 1)) (pv 0) (nomark _))))), ?_⟩
    have e0 : start N_HasWholeRoot [.int D] = [some (.int D), none] := rfl
    rw [e0]
    simp only [cxK, wipe, tYes, List.map_cons, List.map_nil, rIxL, rSum, tSl, rSlL, tNoPart, tPart, exists_and_left, and_assoc, V.ref.injEq, HO.lst.injEq, HO.tup.injEq, tFor_eq, iRng1, iRng2, iList, iTup, tLc_eq, tLst, tTup, gSub, rSetL, gT, gL, gTup, gCons, gNil, atI_0, atI_1, atI_2, atI_3, List.length_cons, List.length_nil, Nat.zero_add, Nat.reduceAdd, Nat.reduceLeDiff, ixN_30, ixN_31, ixN_32, Int.reduceLT, Int.reduceLE, Int.reduceNeg, upd_same, reduceCtorEq, false_and, exists_false, or_false, false_or, tSeq, tNext, tIfS, tRet, tRetN, tDrop, tAsg, gName, tPar, tPar3, tAug, ipI, tVar, tC, tOp, tUn, tCB, tD, tDK, tCons, tNil, rI, rI0, rU, tB, tTest, tAnd, tOr, tNot, tAndV, tOrV, tNotV, tIf, rEq, rNe, scal_ii, scal_bb, scal_ss, rGcd_eq, tBits, List.set_cons_zero, List.set_cons_succ, List.getElem?_cons_zero, List.getElem?_cons_succ, Option.some.injEq, exists_eq_left', V.int.injEq, V.bl.injEq, V.str.injEq, true_and, and_true, decide_eq_true_eq, List.cons.injEq, exists_eq_left, Bool.false_eq_true, if_false, if_true, ite_true, ite_false, Bool.not_eq_true', decide_eq_false_iff_not, Bool.not_not]
    have e : decide (rt D * rt D = D) = decide (Sq D) := by simp only [Sq]
    obtain ⟨s0, s1, s2⟩ := rt_spec h0
    have hle : rt D ≤ D := by
      by_cases h : rt D ≤ 0
      · omega
      · have := Int.mul_le_mul_of_nonneg_right (show 1 ≤ rt D by omega) s0
        omega
    refine ⟨h0, lg (by omega), cmw (by omega) (by omega) (by omega) (by omega), ?_⟩
    rw [e]
    exact kk

theorem okIsRootOf {f : Addr} {fd : FuncData} (F : Fun K "_is_root_of" "_is_root_of" s_IsRootOf f fd) (T : Txt K mg) {fAreWholes : Addr} {fdAreWholes : FuncData} (D_AreWholes : DefAt P w K mg base 2 "are_wholes" fAreWholes fdAreWholes ["value", "many"] (spWholes)) {fHasWholeRoot : Addr} {fdHasWholeRoot : FuncData} (D_HasWholeRoot : DefAt P w K mg base 1 "_has_whole_root" fHasWholeRoot fdHasWholeRoot ["measure"] (spHasRoot)) : FnOk P w K mg base CX0 3 f fd ["measure", "value"] (spIsRootOf) := by
  refine F.ok scIsRootOf (fun vs H Q E h => ?_) (fun cdv A outer s H vs Q E hr h => ?_)
  · obtain ⟨D, x, rfl, _⟩ := h
    rfl
  · obtain ⟨D, x, rfl, h0, h1, hV, kk⟩ := h
    refine ⟨_, (pss_cons (ps_if (pt_not (pt_val (pe_d D_AreWholes hr (pa_cons (pv 1) (pa_cons pe_int pa_nil))))) (pss_one (ps_ret pe_bl)) pss_nil)
        (pss_cons (ps_asg (pv 1) (pg_tupT 3 rfl (pgs_cons (pg_name (i := 2) scIsRootOf.nd rfl (Or.inl rfl)) (pgs_cons (pg_name (i := 3) scIsRootOf.nd rfl (Or.inl rfl)) (pgs_cons (pg_name (i := 4) scIsRootOf.nd rfl (Or.inl rfl)) pgs_nil)))))
        (pss_cons (ps_if (PW.pt (pw_or (pt_cmpR op_lt (pv 4) pe_int (nomark _)) (pw_or1 (pt_cmpR op_gt (pe_callBfun cr_gcd (by rfl) T.gcd (pa_cons (pe_callBfun cr_gcd (by rfl) T.gcd (pa_cons (pv 2) (pa_cons (pv 3) pa_nil))) (pa_cons (pv 4) pa_nil))) pe_int (nomark _))))) (pss_one (ps_ret pe_bl)) pss_nil)
        (pss_one (ps_ret (pe_or (pe_cmpR op_eq (pv 3) pe_int (nomark _)) (pe_one (pe_not (pe_d D_HasWholeRoot hr (pa_cons (pv 0) pa_nil)))))))))), ?_⟩
    have e0 : start N_IsRootOf [.int D, x] = [some (.int D), some x, none, none, none] := rfl
    rw [e0]
    simp only [cxK, wipe, tYes, List.map_cons, List.map_nil, rIxL, rSum, tSl, rSlL, tNoPart, tPart, exists_and_left, and_assoc, V.ref.injEq, HO.lst.injEq, HO.tup.injEq, tFor_eq, iRng1, iRng2, iList, iTup, tLc_eq, tLst, tTup, gSub, rSetL, gT, gL, gTup, gCons, gNil, atI_0, atI_1, atI_2, atI_3, List.length_cons, List.length_nil, Nat.zero_add, Nat.reduceAdd, Nat.reduceLeDiff, ixN_30, ixN_31, ixN_32, Int.reduceLT, Int.reduceLE, Int.reduceNeg, upd_same, reduceCtorEq, false_and, exists_false, or_false, false_or, tSeq, tNext, tIfS, tRet, tRetN, tDrop, tAsg, gName, tPar, tPar3, tAug, ipI, tVar, tC, tOp, tUn, tCB, tD, tDK, tCons, tNil, rI, rI0, rU, tB, tTest, tAnd, tOr, tNot, tAndV, tOrV, tNotV, tIf, rEq, rNe, scal_ii, scal_bb, scal_ss, rGcd_eq, tBits, List.set_cons_zero, List.set_cons_succ, List.getElem?_cons_zero, List.getElem?_cons_succ, Option.some.injEq, exists_eq_left', V.int.injEq, V.bl.injEq, V.str.injEq, true_and, and_true, decide_eq_true_eq, List.cons.injEq, exists_eq_left, Bool.false_eq_true, if_false, if_true, ite_true, ite_false, Bool.not_eq_true', decide_eq_false_iff_not, Bool.not_not]
    refine ⟨x, 3, rfl, by decide, hV, fun H1 s1 => ⟨_, rfl, ?_⟩⟩
    cases hw : wholesB H 3 x with
    | false =>
      rw [if_pos rfl]
      rw [rootB_not hw] at kk
      exact kk _ s1
    | true =>
      rw [if_neg (by decide)]
      obtain ⟨a, i, j, l, rfl, ha⟩ := wholes3 hw
      rw [rootB3 ha] at kk
      have e1 := s1 _ _ ha
      simp only [cxK, wipe, tYes, List.map_cons, List.map_nil, rIxL, rSum, tSl, rSlL, tNoPart, tPart, exists_and_left, and_assoc, V.ref.injEq, HO.lst.injEq, HO.tup.injEq, tFor_eq, iRng1, iRng2, iList, iTup, tLc_eq, tLst, tTup, gSub, rSetL, gT, gL, gTup, gCons, gNil, atI_0, atI_1, atI_2, atI_3, List.length_cons, List.length_nil, Nat.zero_add, Nat.reduceAdd, Nat.reduceLeDiff, ixN_30, ixN_31, ixN_32, Int.reduceLT, Int.reduceLE, Int.reduceNeg, upd_same, reduceCtorEq, false_and, exists_false, or_false, false_or, tSeq, tNext, tIfS, tRet, tRetN, tDrop, tAsg, gName, tPar, tPar3, tAug, ipI, tVar, tC, tOp, tUn, tCB, tD, tDK, tCons, tNil, rI, rI0, rU, tB, tTest, tAnd, tOr, tNot, tAndV, tOrV, tNotV, tIf, rEq, rNe, scal_ii, scal_bb, scal_ss, rGcd_eq, tBits, List.set_cons_zero, List.set_cons_succ, List.getElem?_cons_zero, List.getElem?_cons_succ, Option.some.injEq, exists_eq_left', V.int.injEq, V.bl.injEq, V.str.injEq, true_and, and_true, decide_eq_true_eq, List.cons.injEq, exists_eq_left, Bool.false_eq_true, if_false, if_true, ite_true, ite_false, Bool.not_eq_true', decide_eq_false_iff_not, Bool.not_not, e1]
      refine ite2 (fun hl => ?_) (fun hl => ?_)
      · rw [decide_eq_false (show ¬ 1 ≤ l by omega), Bool.false_and] at kk
        exact kk _ s1
      · rw [decide_eq_true (show 1 ≤ l by omega), Bool.true_and] at kk
        refine ite2 (fun hg => ?_) (fun hg => ?_)
        · rw [decide_eq_false (show ¬ gcdI (gcdI i j) l ≤ 1 by omega), Bool.false_and] at kk
          exact kk _ s1
        · rw [decide_eq_true (show gcdI (gcdI i j) l ≤ 1 by omega), Bool.true_and] at kk
          refine ite2 (fun hj => ?_) (fun hj => ?_)
          · rw [decide_eq_true hj, Bool.true_or] at kk
            exact kk _ s1
          · rw [decide_eq_false hj, Bool.false_or] at kk
            exact ⟨D, rfl, h0, h1, _, rfl, kk _ s1⟩

def InvCheck (D : Int) (a : Addr) (H : Hp) : Nat → SV → Hp → Prop := fun _ σ H2 => ∃ v : Option V, σ = [some (.int D), some (.ref a), v] ∧ Same H H2

theorem okCheck {f : Addr} {fd : FuncData} (F : Fun K "_check" "_check" s_Check f fd) (T : Txt K mg) {fCheckMeasure : Addr} {fdCheckMeasure : FuncData} (D_CheckMeasure : DefAt P w K mg base 3 "check_measure" fCheckMeasure fdCheckMeasure ["measure"] (spCheckMeasure0)) {fIsRootOf : Addr} {fdIsRootOf : FuncData} (D_IsRootOf : DefAt P w K mg base 3 "_is_root_of" fIsRootOf fdIsRootOf ["measure", "value"] (spIsRootOf)) : FnOk P w K mg base CX0 4 f fd ["measure", "roots"] (spCheck0) := by
  refine F.ok scCheck (fun vs H Q E h => ?_) (fun cdv A outer s H vs Q E hr h => ?_)
  · obtain ⟨D, a, rs, rfl, _⟩ := h
    rfl
  · obtain ⟨D, a, rs, rfl, hM, hD, ha, hR, kk⟩ := h
    refine ⟨_, (pss_cons (ps_expr (pe_d D_CheckMeasure hr (pa_cons (pv 0) pa_nil)))
        (pss_one (ps_for PassesOwn.never rfl (pi_tup (pv 1)) (pg_name (i := 2) scCheck.nd rfl (Or.inl rfl)) (pss_one (ps_if (pt_not (pt_val (pe_d D_IsRootOf hr (pa_cons (pv 0) (pa_cons (pv 2) pa_nil))))) (pss_one ps_never) pss_nil))))), ?_⟩
    have e0 : start N_Check [.int D, .ref a] = [some (.int D), some (.ref a), none] := rfl
    rw [e0]
    simp only [cxK, wipe, tYes, List.map_cons, List.map_nil, rIxL, rSum, tSl, rSlL, tNoPart, tPart, exists_and_left, and_assoc, V.ref.injEq, HO.lst.injEq, HO.tup.injEq, tFor_eq, iRng1, iRng2, iList, iTup, tLc_eq, tLst, tTup, gSub, rSetL, gT, gL, gTup, gCons, gNil, atI_0, atI_1, atI_2, atI_3, List.length_cons, List.length_nil, Nat.zero_add, Nat.reduceAdd, Nat.reduceLeDiff, ixN_30, ixN_31, ixN_32, Int.reduceLT, Int.reduceLE, Int.reduceNeg, upd_same, reduceCtorEq, false_and, exists_false, or_false, false_or, tSeq, tNext, tIfS, tRet, tRetN, tDrop, tAsg, gName, tPar, tPar3, tAug, ipI, tVar, tC, tOp, tUn, tCB, tD, tDK, tCons, tNil, rI, rI0, rU, tB, tTest, tAnd, tOr, tNot, tAndV, tOrV, tNotV, tIf, rEq, rNe, scal_ii, scal_bb, scal_ss, rGcd_eq, tBits, List.set_cons_zero, List.set_cons_succ, List.getElem?_cons_zero, List.getElem?_cons_succ, Option.some.injEq, exists_eq_left', V.int.injEq, V.bl.injEq, V.str.injEq, true_and, and_true, decide_eq_true_eq, List.cons.injEq, exists_eq_left, Bool.false_eq_true, if_false, if_true, ite_true, ite_false, Bool.not_eq_true', decide_eq_false_iff_not, Bool.not_not]
    refine ⟨D, rfl, hM, ⟨_, SqT.of ha⟩, ?_⟩
    refine forW_tup (xs := rs.map V.ref) (InvCheck D a H) ⟨none, rfl, Same.refl _⟩ (fun i σ H2 _ z => ?_) ?_ ?_
    · obtain ⟨v, _, s2⟩ := z
      exact SqT.of (s2 _ _ ha)
    · rintro i x σ' H2 hx ⟨v, rfl, s2⟩
      obtain ⟨r, hr', rfl⟩ : ∃ r, r ∈ rs ∧ x = V.ref r := by
        have := List.mem_of_getElem? hx
        obtain ⟨r, h1, h2⟩ := List.mem_map.mp this
        exact ⟨r, h1, h2.symm⟩
      obtain ⟨t, ht⟩ := hR r hr'
      have h5 := hM.1
      simp only [cxK, wipe, tYes, List.map_cons, List.map_nil, rIxL, rSum, tSl, rSlL, tNoPart, tPart, exists_and_left, and_assoc, V.ref.injEq, HO.lst.injEq, HO.tup.injEq, tFor_eq, iRng1, iRng2, iList, iTup, tLc_eq, tLst, tTup, gSub, rSetL, gT, gL, gTup, gCons, gNil, atI_0, atI_1, atI_2, atI_3, List.length_cons, List.length_nil, Nat.zero_add, Nat.reduceAdd, Nat.reduceLeDiff, ixN_30, ixN_31, ixN_32, Int.reduceLT, Int.reduceLE, Int.reduceNeg, upd_same, reduceCtorEq, false_and, exists_false, or_false, false_or, tSeq, tNext, tIfS, tRet, tRetN, tDrop, tAsg, gName, tPar, tPar3, tAug, ipI, tVar, tC, tOp, tUn, tCB, tD, tDK, tCons, tNil, rI, rI0, rU, tB, tTest, tAnd, tOr, tNot, tAndV, tOrV, tNotV, tIf, rEq, rNe, scal_ii, scal_bb, scal_ss, rGcd_eq, tBits, List.set_cons_zero, List.set_cons_succ, List.getElem?_cons_zero, List.getElem?_cons_succ, Option.some.injEq, exists_eq_left', V.int.injEq, V.bl.injEq, V.str.injEq, true_and, and_true, decide_eq_true_eq, List.cons.injEq, exists_eq_left, Bool.false_eq_true, if_false, if_true, ite_true, ite_false, Bool.not_eq_true', decide_eq_false_iff_not, Bool.not_not]
      refine ⟨D, .ref r, rfl, by omega, hD, (ht.same s2).okV, fun H3 s3 => ⟨_, rfl, ?_⟩⟩
      rw [(ht.same s2).isRoot, if_neg (by decide)]
      exact ⟨_, rfl, s2.trans s3⟩
    · rintro σ' H2 ⟨v, rfl, s2⟩
      exact kk _ s2

theorem okSide {f : Addr} {fd : FuncData} (F : Fun K "_side" "_side" s_Side f fd) (T : Txt K mg) : FnOk P w K mg base CX0 1 f fd ["number"] (spSgn) := by
  refine F.ok scSide (fun vs H Q E h => ?_) (fun cdv A outer s H vs Q E hr h => ?_)
  · obtain ⟨x, rfl, _⟩ := h
    rfl
  · obtain ⟨x, rfl, kk⟩ := h
    refine ⟨_, (pss_cons (ps_if (pt_cmpR op_eq (pv 0) pe_int (nomark _)) (pss_one (ps_ret pe_int)) pss_nil)
        (pss_one (ps_ret (pe_ifExp (pt_cmpR op_gt (pv 0) pe_int (nomark _)) pe_int (pe_un un_neg pe_int))))), ?_⟩
    have e0 : start N_Side [.int x] = [some (.int x)] := rfl
    rw [e0]
    simp only [cxK, wipe, tYes, List.map_cons, List.map_nil, rIxL, rSum, tSl, rSlL, tNoPart, tPart, exists_and_left, and_assoc, V.ref.injEq, HO.lst.injEq, HO.tup.injEq, tFor_eq, iRng1, iRng2, iList, iTup, tLc_eq, tLst, tTup, gSub, rSetL, gT, gL, gTup, gCons, gNil, atI_0, atI_1, atI_2, atI_3, List.length_cons, List.length_nil, Nat.zero_add, Nat.reduceAdd, Nat.reduceLeDiff, ixN_30, ixN_31, ixN_32, Int.reduceLT, Int.reduceLE, Int.reduceNeg, upd_same, reduceCtorEq, false_and, exists_false, or_false, false_or, tSeq, tNext, tIfS, tRet, tRetN, tDrop, tAsg, gName, tPar, tPar3, tAug, ipI, tVar, tC, tOp, tUn, tCB, tD, tDK, tCons, tNil, rI, rI0, rU, tB, tTest, tAnd, tOr, tNot, tAndV, tOrV, tNotV, tIf, rEq, rNe, scal_ii, scal_bb, scal_ss, rGcd_eq, tBits, List.set_cons_zero, List.set_cons_succ, List.getElem?_cons_zero, List.getElem?_cons_succ, Option.some.injEq, exists_eq_left', V.int.injEq, V.bl.injEq, V.str.injEq, true_and, and_true, decide_eq_true_eq, List.cons.injEq, exists_eq_left, Bool.false_eq_true, if_false, if_true, ite_true, ite_false, Bool.not_eq_true', decide_eq_false_iff_not, Bool.not_not]
    unfold sgn at kk
    by_cases h0 : x = 0
    · rw [if_pos h0] at kk ⊢
      exact kk
    · rw [if_neg h0] at kk ⊢
      by_cases h1 : 0 < x
      · rw [if_pos h1] at kk ⊢
        exact kk
      · rw [if_neg h1] at kk ⊢
        exact kk

theorem okFloorOfMultiple {f : Addr} {fd : FuncData} (F : Fun K "_floor_of_multiple" "_floor_of_multiple" s_FloorOfMultiple f fd) (T : Txt K mg) : FnOk P w K mg base CX0 1 f fd ["measure", "times"] (spFlM) := by
  refine F.ok scFloorOfMultiple (fun vs H Q E h => ?_) (fun cdv A outer s H vs Q E hr h => ?_)
  · obtain ⟨D, y, rfl, _⟩ := h
    rfl
  · obtain ⟨D, y, rfl, h0, h1, h2, h3, kk⟩ := h
    refine ⟨_, (pss_cons (ps_set (i := 2) scFloorOfMultiple.nd rfl (Or.inl rfl) (pe_op op_mulU (pe_op op_mulU (pv 0) (pv 1)) (pv 1)))
        (pss_cons (ps_if (pt_cmpR op_ge (pv 1) pe_int (nomark _)) (pss_one (ps_ret (pe_callBfun cr_isqrt (by rfl) T.isqrt (pa_cons (pv 2) pa_nil)))) pss_nil)
        (pss_one (ps_ret (pe_op op_sub (pe_un un_neg (pe_callBfun cr_isqrt (by rfl) T.isqrt (pa_cons (pe_op op_sub (pv 2) pe_int) pa_nil))) pe_int))))), ?_⟩
    have e0 : start N_FloorOfMultiple [.int D, .int y] = [some (.int D), some (.int y), none] := rfl
    rw [e0]
    simp only [cxK, wipe, tYes, List.map_cons, List.map_nil, rIxL, rSum, tSl, rSlL, tNoPart, tPart, exists_and_left, and_assoc, V.ref.injEq, HO.lst.injEq, HO.tup.injEq, tFor_eq, iRng1, iRng2, iList, iTup, tLc_eq, tLst, tTup, gSub, rSetL, gT, gL, gTup, gCons, gNil, atI_0, atI_1, atI_2, atI_3, List.length_cons, List.length_nil, Nat.zero_add, Nat.reduceAdd, Nat.reduceLeDiff, ixN_30, ixN_31, ixN_32, Int.reduceLT, Int.reduceLE, Int.reduceNeg, upd_same, reduceCtorEq, false_and, exists_false, or_false, false_or, tSeq, tNext, tIfS, tRet, tRetN, tDrop, tAsg, gName, tPar, tPar3, tAug, ipI, tVar, tC, tOp, tUn, tCB, tD, tDK, tCons, tNil, rI, rI0, rU, tB, tTest, tAnd, tOr, tNot, tAndV, tOrV, tNotV, tIf, rEq, rNe, scal_ii, scal_bb, scal_ss, rGcd_eq, tBits, List.set_cons_zero, List.set_cons_succ, List.getElem?_cons_zero, List.getElem?_cons_succ, Option.some.injEq, exists_eq_left', V.int.injEq, V.bl.injEq, V.str.injEq, true_and, and_true, decide_eq_true_eq, List.cons.injEq, exists_eq_left, Bool.false_eq_true, if_false, if_true, ite_true, ite_false, Bool.not_eq_true', decide_eq_false_iff_not, Bool.not_not]
    have w1 : (D * y).natAbs < 2 ^ (1000 + 1000) := wide_lt (by omega) (by omega)
    have w2 : (D * y * y).natAbs < 2 ^ (1000 + 1000 + 1000) := wide_lt w1 (by omega)
    simp only [Nat.reduceAdd] at w1 w2
    unfold flM at kk
    refine ⟨cmw (by omega) (by omega) (by omega) (by omega), cmw (by omega) (by omega) (by omega) (by omega), ite2 (fun hy => ?_) (fun hy => ?_)⟩
    · rw [if_pos hy] at kk
      exact ⟨dyy_nn (by omega), lg (by omega), kk⟩
    · rw [if_neg hy] at kk
      have := dyy_pos h0 (show y ≠ 0 by omega)
      exact ⟨by omega, lg (by omega), kk⟩

theorem okRootSide {f : Addr} {fd : FuncData} (F : Fun K "root_side" "root_side" s_RootSide f fd) (T : Txt K mg) {fCheck : Addr} {fdCheck : FuncData} (D_Check : DefAt P w K mg base 4 "_check" fCheck fdCheck ["measure", "roots"] (spCheck0)) {fSide : Addr} {fdSide : FuncData} (D_Side : DefAt P w K mg base 1 "_side" fSide fdSide ["number"] (spSgn)) : FnOk P w K mg base CX0 5 f fd ["measure", "root"] (spRootSide) := by
  refine F.ok scRootSide (fun vs H Q E h => ?_) (fun cdv A outer s H vs Q E hr h => ?_)
  · obtain ⟨D, a, t, rfl, _⟩ := h
    rfl
  · obtain ⟨D, a, t, rfl, hM, hD, hR, hS, kk⟩ := h
    refine ⟨_, (pss_cons (ps_expr (pe_d D_Check hr (pa_cons (pv 0) (pa_cons (pe_tup (pa_cons (pv 1) pa_nil)) pa_nil))))
        (pss_cons (ps_asg (pv 1) (pg_tupT 3 rfl (pgs_cons (pg_name (i := 2) scRootSide.nd rfl (Or.inl rfl)) (pgs_cons (pg_name (i := 3) scRootSide.nd rfl (Or.inl rfl)) (pgs_cons (pg_name (i := 4) scRootSide.nd rfl (Or.inl rfl)) pgs_nil)))))
        (pss_cons (ps_if (pt_cmpR op_gt (pe_op op_mulU (pv 2) (pv 2)) (pe_op op_mulU (pe_op op_mulU (pv 0) (pv 3)) (pv 3)) (nomark _)) (pss_one (ps_ret (pe_d D_Side hr (pa_cons (pv 2) pa_nil)))) pss_nil)
        (pss_one (ps_ret (pe_d D_Side hr (pa_cons (pv 3) pa_nil))))))), ?_⟩
    have e0 : start N_RootSide [.int D, .ref a] = [some (.int D), some (.ref a), none, none, none] := rfl
    rw [e0]
    simp only [cxK, wipe, tYes, List.map_cons, List.map_nil, rIxL, rSum, tSl, rSlL, tNoPart, tPart, exists_and_left, and_assoc, V.ref.injEq, HO.lst.injEq, HO.tup.injEq, tFor_eq, iRng1, iRng2, iList, iTup, tLc_eq, tLst, tTup, gSub, rSetL, gT, gL, gTup, gCons, gNil, atI_0, atI_1, atI_2, atI_3, List.length_cons, List.length_nil, Nat.zero_add, Nat.reduceAdd, Nat.reduceLeDiff, ixN_30, ixN_31, ixN_32, Int.reduceLT, Int.reduceLE, Int.reduceNeg, upd_same, reduceCtorEq, false_and, exists_false, or_false, false_or, tSeq, tNext, tIfS, tRet, tRetN, tDrop, tAsg, gName, tPar, tPar3, tAug, ipI, tVar, tC, tOp, tUn, tCB, tD, tDK, tCons, tNil, rI, rI0, rU, tB, tTest, tAnd, tOr, tNot, tAndV, tOrV, tNotV, tIf, rEq, rNe, scal_ii, scal_bb, scal_ss, rGcd_eq, tBits, List.set_cons_zero, List.set_cons_succ, List.getElem?_cons_zero, List.getElem?_cons_succ, Option.some.injEq, exists_eq_left', V.int.injEq, V.bl.injEq, V.str.injEq, true_and, and_true, decide_eq_true_eq, List.cons.injEq, exists_eq_left, Bool.false_eq_true, if_false, if_true, ite_true, ite_false, Bool.not_eq_true', decide_eq_false_iff_not, Bool.not_not]
    refine ⟨by decide, fun p np => ⟨D, p, [a], rfl, hM, by omega, upd_same, fun r hr' => ?_, fun H1 s1 => ?_⟩⟩
    · rw [List.mem_singleton] at hr'
      subst hr'
      exact ⟨t, hR.same (Same.upd np)⟩
    · have s2 : Same H H1 := (Same.upd np).trans s1
      have e1 : H1 a = some (.tup [.int t.1, .int t.2.1, .int t.2.2]) := s2 _ _ hR.1
      obtain ⟨q1, q2, q3⟩ := hS
      have h5 := hM.1
      have w1 : (D * t.2.1).natAbs < 2 ^ (500 + 900) := wide_lt (by omega) q2
      simp only [Nat.reduceAdd] at w1
      simp only [cxK, wipe, tYes, List.map_cons, List.map_nil, rIxL, rSum, tSl, rSlL, tNoPart, tPart, exists_and_left, and_assoc, V.ref.injEq, HO.lst.injEq, HO.tup.injEq, tFor_eq, iRng1, iRng2, iList, iTup, tLc_eq, tLst, tTup, gSub, rSetL, gT, gL, gTup, gCons, gNil, atI_0, atI_1, atI_2, atI_3, List.length_cons, List.length_nil, Nat.zero_add, Nat.reduceAdd, Nat.reduceLeDiff, ixN_30, ixN_31, ixN_32, Int.reduceLT, Int.reduceLE, Int.reduceNeg, upd_same, reduceCtorEq, false_and, exists_false, or_false, false_or, tSeq, tNext, tIfS, tRet, tRetN, tDrop, tAsg, gName, tPar, tPar3, tAug, ipI, tVar, tC, tOp, tUn, tCB, tD, tDK, tCons, tNil, rI, rI0, rU, tB, tTest, tAnd, tOr, tNot, tAndV, tOrV, tNotV, tIf, rEq, rNe, scal_ii, scal_bb, scal_ss, rGcd_eq, tBits, List.set_cons_zero, List.set_cons_succ, List.getElem?_cons_zero, List.getElem?_cons_succ, Option.some.injEq, exists_eq_left', V.int.injEq, V.bl.injEq, V.str.injEq, true_and, and_true, decide_eq_true_eq, List.cons.injEq, exists_eq_left, Bool.false_eq_true, if_false, if_true, ite_true, ite_false, Bool.not_eq_true', decide_eq_false_iff_not, Bool.not_not, e1]
      unfold sideP at kk
      refine ⟨cmw (by omega) (by omega) (by omega) (by omega), cmw (by omega) (by omega) (by omega) (by omega), cmw (by omega) (by omega) (by omega) (by omega), ite2 (fun hc => ?_) (fun hc => ?_)⟩
      · rw [if_pos hc] at kk
        exact ⟨_, rfl, kk _ s2⟩
      · rw [if_neg hc] at kk
        exact ⟨_, rfl, kk _ s2⟩

theorem okRootFloor {f : Addr} {fd : FuncData} (F : Fun K "root_floor" "root_floor" s_RootFloor f fd) (T : Txt K mg) {fCheck : Addr} {fdCheck : FuncData} (D_Check : DefAt P w K mg base 4 "_check" fCheck fdCheck ["measure", "roots"] (spCheck0)) {fFloorOfMultiple : Addr} {fdFloorOfMultiple : FuncData} (D_FloorOfMultiple : DefAt P w K mg base 1 "_floor_of_multiple" fFloorOfMultiple fdFloorOfMultiple ["measure", "times"] (spFlM)) : FnOk P w K mg base CX0 5 f fd ["measure", "root"] (spRootFloor) := by
  refine F.ok scRootFloor (fun vs H Q E h => ?_) (fun cdv A outer s H vs Q E hr h => ?_)
  · obtain ⟨D, a, t, rfl, _⟩ := h
    rfl
  · obtain ⟨D, a, t, rfl, hM, hD, hR, hS, kk⟩ := h
    refine ⟨_, (pss_cons (ps_expr (pe_d D_Check hr (pa_cons (pv 0) (pa_cons (pe_tup (pa_cons (pv 1) pa_nil)) pa_nil))))
        (pss_cons (ps_asg (pv 1) (pg_tupT 3 rfl (pgs_cons (pg_name (i := 2) scRootFloor.nd rfl (Or.inl rfl)) (pgs_cons (pg_name (i := 3) scRootFloor.nd rfl (Or.inl rfl)) (pgs_cons (pg_name (i := 4) scRootFloor.nd rfl (Or.inl rfl)) pgs_nil)))))
        (pss_one (ps_ret (pe_op op_fdivX (pe_op op_add (pv 2) (pe_d D_FloorOfMultiple hr (pa_cons (pv 0) (pa_cons (pv 3) pa_nil)))) (pv 4)))))), ?_⟩
    have e0 : start N_RootFloor [.int D, .ref a] = [some (.int D), some (.ref a), none, none, none] := rfl
    rw [e0]
    simp only [cxK, wipe, tYes, List.map_cons, List.map_nil, rIxL, rSum, tSl, rSlL, tNoPart, tPart, exists_and_left, and_assoc, V.ref.injEq, HO.lst.injEq, HO.tup.injEq, tFor_eq, iRng1, iRng2, iList, iTup, tLc_eq, tLst, tTup, gSub, rSetL, gT, gL, gTup, gCons, gNil, atI_0, atI_1, atI_2, atI_3, List.length_cons, List.length_nil, Nat.zero_add, Nat.reduceAdd, Nat.reduceLeDiff, ixN_30, ixN_31, ixN_32, Int.reduceLT, Int.reduceLE, Int.reduceNeg, upd_same, reduceCtorEq, false_and, exists_false, or_false, false_or, tSeq, tNext, tIfS, tRet, tRetN, tDrop, tAsg, gName, tPar, tPar3, tAug, ipI, tVar, tC, tOp, tUn, tCB, tD, tDK, tCons, tNil, rI, rI0, rU, tB, tTest, tAnd, tOr, tNot, tAndV, tOrV, tNotV, tIf, rEq, rNe, scal_ii, scal_bb, scal_ss, rGcd_eq, tBits, List.set_cons_zero, List.set_cons_succ, List.getElem?_cons_zero, List.getElem?_cons_succ, Option.some.injEq, exists_eq_left', V.int.injEq, V.bl.injEq, V.str.injEq, true_and, and_true, decide_eq_true_eq, List.cons.injEq, exists_eq_left, Bool.false_eq_true, if_false, if_true, ite_true, ite_false, Bool.not_eq_true', decide_eq_false_iff_not, Bool.not_not]
    refine ⟨by decide, fun p np => ⟨D, p, [a], rfl, hM, by omega, upd_same, fun r hr' => ?_, fun H1 s1 => ?_⟩⟩
    · rw [List.mem_singleton] at hr'
      subst hr'
      exact ⟨t, hR.same (Same.upd np)⟩
    · have s2 : Same H H1 := (Same.upd np).trans s1
      have e1 : H1 a = some (.tup [.int t.1, .int t.2.1, .int t.2.2]) := s2 _ _ hR.1
      obtain ⟨q1, q2, q3⟩ := hS
      have h5 := hM.1
      have hb := hR.2.1
      simp only [cxK, wipe, tYes, List.map_cons, List.map_nil, rIxL, rSum, tSl, rSlL, tNoPart, tPart, exists_and_left, and_assoc, V.ref.injEq, HO.lst.injEq, HO.tup.injEq, tFor_eq, iRng1, iRng2, iList, iTup, tLc_eq, tLst, tTup, gSub, rSetL, gT, gL, gTup, gCons, gNil, atI_0, atI_1, atI_2, atI_3, List.length_cons, List.length_nil, Nat.zero_add, Nat.reduceAdd, Nat.reduceLeDiff, ixN_30, ixN_31, ixN_32, Int.reduceLT, Int.reduceLE, Int.reduceNeg, upd_same, reduceCtorEq, false_and, exists_false, or_false, false_or, tSeq, tNext, tIfS, tRet, tRetN, tDrop, tAsg, gName, tPar, tPar3, tAug, ipI, tVar, tC, tOp, tUn, tCB, tD, tDK, tCons, tNil, rI, rI0, rU, tB, tTest, tAnd, tOr, tNot, tAndV, tOrV, tNotV, tIf, rEq, rNe, scal_ii, scal_bb, scal_ss, rGcd_eq, tBits, List.set_cons_zero, List.set_cons_succ, List.getElem?_cons_zero, List.getElem?_cons_succ, Option.some.injEq, exists_eq_left', V.int.injEq, V.bl.injEq, V.str.injEq, true_and, and_true, decide_eq_true_eq, List.cons.injEq, exists_eq_left, Bool.false_eq_true, if_false, if_true, ite_true, ite_false, Bool.not_eq_true', decide_eq_false_iff_not, Bool.not_not, e1]
      refine ⟨D, t.2.1, rfl, by omega, by omega, by omega, by omega, ?_⟩
      simp only [cxK, wipe, tYes, List.map_cons, List.map_nil, rIxL, rSum, tSl, rSlL, tNoPart, tPart, exists_and_left, and_assoc, V.ref.injEq, HO.lst.injEq, HO.tup.injEq, tFor_eq, iRng1, iRng2, iList, iTup, tLc_eq, tLst, tTup, gSub, rSetL, gT, gL, gTup, gCons, gNil, atI_0, atI_1, atI_2, atI_3, List.length_cons, List.length_nil, Nat.zero_add, Nat.reduceAdd, Nat.reduceLeDiff, ixN_30, ixN_31, ixN_32, Int.reduceLT, Int.reduceLE, Int.reduceNeg, upd_same, reduceCtorEq, false_and, exists_false, or_false, false_or, tSeq, tNext, tIfS, tRet, tRetN, tDrop, tAsg, gName, tPar, tPar3, tAug, ipI, tVar, tC, tOp, tUn, tCB, tD, tDK, tCons, tNil, rI, rI0, rU, tB, tTest, tAnd, tOr, tNot, tAndV, tOrV, tNotV, tIf, rEq, rNe, scal_ii, scal_bb, scal_ss, rGcd_eq, tBits, List.set_cons_zero, List.set_cons_succ, List.getElem?_cons_zero, List.getElem?_cons_succ, Option.some.injEq, exists_eq_left', V.int.injEq, V.bl.injEq, V.str.injEq, true_and, and_true, decide_eq_true_eq, List.cons.injEq, exists_eq_left, Bool.false_eq_true, if_false, if_true, ite_true, ite_false, Bool.not_eq_true', decide_eq_false_iff_not, Bool.not_not]
      exact ⟨cdiv (by omega) (by omega) (by omega), kk _ s2⟩

theorem okReduced {f : Addr} {fd : FuncData} (F : Fun K "_reduced" "_reduced" s_Reduced f fd) (T : Txt K mg) {fHasWholeRoot : Addr} {fdHasWholeRoot : FuncData} (D_HasWholeRoot : DefAt P w K mg base 1 "_has_whole_root" fHasWholeRoot fdHasWholeRoot ["measure"] (spHasRoot)) : FnOk P w K mg base CX0 2 f fd ["measure", "x", "y", "below"] (spReduced) := by
  refine F.ok scReduced (fun vs H Q E h => ?_) (fun cdv A outer s H vs Q E hr h => ?_)
  · obtain ⟨D, x, y, b, rfl, _⟩ := h
    rfl
  · obtain ⟨D, x, y, b, rfl, h0, h1, hx, hy, hb, hb0, kk⟩ := h
    refine ⟨_, (pss_cons (ps_if (pt_val (pe_d D_HasWholeRoot hr (pa_cons (pv 0) pa_nil))) (pss_cons (ps_aug (i := 1) scReduced.nd rfl (Or.inl rfl) (pe_op op_mulU (pv 2) (pe_callBfun cr_isqrt (by rfl) T.isqrt (pa_cons (pv 0) pa_nil))) ip_add)
        (pss_one (ps_set (i := 2) scReduced.nd rfl (Or.inl rfl) pe_int))) pss_nil)
        (pss_cons (ps_set (i := 4) scReduced.nd rfl (Or.inl rfl) (pe_callBfun cr_gcd (by rfl) T.gcd (pa_cons (pe_callBfun cr_gcd (by rfl) T.gcd (pa_cons (pv 1) (pa_cons (pv 2) pa_nil))) (pa_cons (pv 3) pa_nil))))
        (pss_cons (ps_if (pt_cmpR op_lt (pv 3) pe_int (nomark _)) (pss_one (ps_set (i := 4) scReduced.nd rfl (Or.inl rfl) (pe_un un_neg (pv 4)))) pss_nil)
        (pss_one (ps_ret (pe_tup (pa_cons (pe_op op_fdivX (pv 1) (pv 4)) (pa_cons (pe_op op_fdivX (pv 2) (pv 4)) (pa_cons (pe_op op_fdivX (pv 3) (pv 4)) pa_nil))))))))), ?_⟩
    have e0 : start N_Reduced [.int D, .int x, .int y, .int b] = [some (.int D), some (.int x), some (.int y), some (.int b), none] := rfl
    rw [e0]
    simp only [cxK, wipe, tYes, List.map_cons, List.map_nil, rIxL, rSum, tSl, rSlL, tNoPart, tPart, exists_and_left, and_assoc, V.ref.injEq, HO.lst.injEq, HO.tup.injEq, tFor_eq, iRng1, iRng2, iList, iTup, tLc_eq, tLst, tTup, gSub, rSetL, gT, gL, gTup, gCons, gNil, atI_0, atI_1, atI_2, atI_3, List.length_cons, List.length_nil, Nat.zero_add, Nat.reduceAdd, Nat.reduceLeDiff, ixN_30, ixN_31, ixN_32, Int.reduceLT, Int.reduceLE, Int.reduceNeg, upd_same, reduceCtorEq, false_and, exists_false, or_false, false_or, tSeq, tNext, tIfS, tRet, tRetN, tDrop, tAsg, gName, tPar, tPar3, tAug, ipI, tVar, tC, tOp, tUn, tCB, tD, tDK, tCons, tNil, rI, rI0, rU, tB, tTest, tAnd, tOr, tNot, tAndV, tOrV, tNotV, tIf, rEq, rNe, scal_ii, scal_bb, scal_ss, rGcd_eq, tBits, List.set_cons_zero, List.set_cons_succ, List.getElem?_cons_zero, List.getElem?_cons_succ, Option.some.injEq, exists_eq_left', V.int.injEq, V.bl.injEq, V.str.injEq, true_and, and_true, decide_eq_true_eq, List.cons.injEq, exists_eq_left, Bool.false_eq_true, if_false, if_true, ite_true, ite_false, Bool.not_eq_true', decide_eq_false_iff_not, Bool.not_not]
    refine ⟨D, rfl, h0, by omega, _, rfl, ?_⟩
    obtain ⟨s0, s1', s2⟩ := rt_spec h0
    have hle : rt D ≤ D := by
      by_cases h : rt D ≤ 0
      · omega
      · have := Int.mul_le_mul_of_nonneg_right (show 1 ≤ rt D by omega) s0
        omega
    by_cases hs : rt D * rt D = D
    · rw [if_pos (show decide (Sq D) = true from decide_eq_true hs)]
      refine ⟨h0, lg (by omega), cmw (by omega) (by omega) (by omega) (by omega), ?_⟩
      have hred : red (x + y * rt D) 0 b = least D x y b := by unfold least; rw [if_pos hs]
      have hl0 := lsg_ne (x := x + y * rt D) (y := 0) hb0
      have hl1 := lsg_size (x := x + y * rt D) (y := 0) hb0
      have dv : DivOk (lsg (x + y * rt D) (0) b) := cdiv hl0 (by omega) (by omega)
      refine ite2 (fun hn => ?_) (fun hn => ?_)
      · have e : -gcdI (gcdI (x + y * rt D) (0)) b = lsg (x + y * rt D) (0) b := by unfold lsg; rw [if_pos hn, Int.zero_sub]
        rw [e]
        refine ⟨dv, dv, dv, by decide, fun p np => kk p _ np (Same.upd np) ?_⟩
        rw [upd_same, ← hred]
        rfl
      · have e : gcdI (gcdI (x + y * rt D) (0)) b = lsg (x + y * rt D) (0) b := by unfold lsg; rw [if_neg hn]
        rw [e]
        refine ⟨dv, dv, dv, by decide, fun p np => kk p _ np (Same.upd np) ?_⟩
        rw [upd_same, ← hred]
        rfl
    · rw [if_neg (show ¬ decide (Sq D) = true from by rw [decide_eq_true_eq]; exact hs)]
      have hred : red x y b = least D x y b := by unfold least; rw [if_neg hs]
      have hl0 := lsg_ne (x := x) (y := y) hb0
      have hl1 := lsg_size (x := x) (y := y) hb0
      have dv : DivOk (lsg (x) (y) b) := cdiv hl0 (by omega) (by omega)
      refine ite2 (fun hn => ?_) (fun hn => ?_)
      · have e : -gcdI (gcdI (x) (y)) b = lsg (x) (y) b := by unfold lsg; rw [if_pos hn, Int.zero_sub]
        rw [e]
        refine ⟨dv, dv, dv, by decide, fun p np => kk p _ np (Same.upd np) ?_⟩
        rw [upd_same, ← hred]
        rfl
      · have e : gcdI (gcdI (x) (y)) b = lsg (x) (y) b := by unfold lsg; rw [if_neg hn]
        rw [e]
        refine ⟨dv, dv, dv, by decide, fun p np => kk p _ np (Same.upd np) ?_⟩
        rw [upd_same, ← hred]
        rfl

theorem okMultiplied {f : Addr} {fd : FuncData} (F : Fun K "_multiplied" "_multiplied" s_Multiplied f fd) (T : Txt K mg) {fReduced : Addr} {fdReduced : FuncData} (D_Reduced : DefAt P w K mg base 2 "_reduced" fReduced fdReduced ["measure", "x", "y", "below"] (spReduced)) : FnOk P w K mg base CX0 3 f fd ["measure", "one", "other"] (spTimes) := by
  refine F.ok scMultiplied (fun vs H Q E h => ?_) (fun cdv A outer s H vs Q E hr h => ?_)
  · obtain ⟨D, a, b, t, u, n, m, rfl, _⟩ := h
    rfl
  · obtain ⟨D, a, b, t, u, n, m, rfl, T2, hnm, kk⟩ := h
    refine ⟨_, (pss_cons (ps_asg (pv 1) (pg_tupT 3 rfl (pgs_cons (pg_name (i := 3) scMultiplied.nd rfl (Or.inl rfl)) (pgs_cons (pg_name (i := 4) scMultiplied.nd rfl (Or.inl rfl)) (pgs_cons (pg_name (i := 5) scMultiplied.nd rfl (Or.inl rfl)) pgs_nil)))))
        (pss_cons (ps_asg (pv 2) (pg_tupT 3 rfl (pgs_cons (pg_name (i := 6) scMultiplied.nd rfl (Or.inl rfl)) (pgs_cons (pg_name (i := 7) scMultiplied.nd rfl (Or.inl rfl)) (pgs_cons (pg_name (i := 8) scMultiplied.nd rfl (Or.inl rfl)) pgs_nil)))))
        (pss_cons (ps_set (i := 9) scMultiplied.nd rfl (Or.inl rfl) (pe_op op_add (pe_op op_mulU (pv 3) (pv 6)) (pe_op op_mulU (pe_op op_mulU (pv 0) (pv 4)) (pv 7))))
        (pss_cons (ps_set (i := 10) scMultiplied.nd rfl (Or.inl rfl) (pe_op op_add (pe_op op_mulU (pv 3) (pv 7)) (pe_op op_mulU (pv 4) (pv 6))))
        (pss_one (ps_ret (pe_d D_Reduced hr (pa_cons (pv 0) (pa_cons (pv 9) (pa_cons (pv 10) (pa_cons (pe_op op_mulU (pv 5) (pv 8)) pa_nil))))))))))), ?_⟩
    have e0 : start N_Multiplied [.int D, .ref a, .ref b] = [some (.int D), some (.ref a), some (.ref b), none, none, none, none, none, none, none, none] := rfl
    rw [e0]
    have e1 : H a = some (.tup [.int t.1, .int t.2.1, .int t.2.2]) := T2.ra.1
    have e2 : H b = some (.tup [.int u.1, .int u.2.1, .int u.2.2]) := T2.rb.1
    obtain ⟨d0, d1⟩ := T2.dn
    have d2 := T2.lt
    obtain ⟨z1, z2, z3⟩ := T2.za
    obtain ⟨y1, y2, y3⟩ := T2.zb
    simp only [cxK, wipe, tYes, List.map_cons, List.map_nil, rIxL, rSum, tSl, rSlL, tNoPart, tPart, exists_and_left, and_assoc, V.ref.injEq, HO.lst.injEq, HO.tup.injEq, tFor_eq, iRng1, iRng2, iList, iTup, tLc_eq, tLst, tTup, gSub, rSetL, gT, gL, gTup, gCons, gNil, atI_0, atI_1, atI_2, atI_3, List.length_cons, List.length_nil, Nat.zero_add, Nat.reduceAdd, Nat.reduceLeDiff, ixN_30, ixN_31, ixN_32, Int.reduceLT, Int.reduceLE, Int.reduceNeg, upd_same, reduceCtorEq, false_and, exists_false, or_false, false_or, tSeq, tNext, tIfS, tRet, tRetN, tDrop, tAsg, gName, tPar, tPar3, tAug, ipI, tVar, tC, tOp, tUn, tCB, tD, tDK, tCons, tNil, rI, rI0, rU, tB, tTest, tAnd, tOr, tNot, tAndV, tOrV, tNotV, tIf, rEq, rNe, scal_ii, scal_bb, scal_ss, rGcd_eq, tBits, List.set_cons_zero, List.set_cons_succ, List.getElem?_cons_zero, List.getElem?_cons_succ, Option.some.injEq, exists_eq_left', V.int.injEq, V.bl.injEq, V.str.injEq, true_and, and_true, decide_eq_true_eq, List.cons.injEq, exists_eq_left, Bool.false_eq_true, if_false, if_true, ite_true, ite_false, Bool.not_eq_true', decide_eq_false_iff_not, Bool.not_not, e1, e2]
    refine ⟨okm z1 y1 (by omega) (by omega), okm d1 z2 (by omega) (by omega), okm (wide_lt d1 z2) y2 (by omega) (by omega), okm z1 y2 (by omega) (by omega), okm z2 y1 (by omega) (by omega), okm z3 y3 (by omega) (by omega), ?_⟩
    have nb := mul_ne (below_ne T2.ra.2) (below_ne T2.rb.2)
    exact ⟨D, _, _, _, rfl, d0, by omega, up (sz_add (up (wide_lt z1 y1) (show n + m ≤ n + m + 200 by omega)) (dmul_sz d1 z2 y2 (by omega))) (by omega), up (sz_add (wide_lt z1 y2) (wide_lt z2 y1)) (by omega), up (wide_lt z3 y3) (by omega), nb, fun p H1 np s1 e => kk p H1 np s1 ⟨e, least_good nb⟩⟩

theorem okRootTimes {f : Addr} {fd : FuncData} (F : Fun K "root_times" "root_times" s_RootTimes f fd) (T : Txt K mg) {fCheck : Addr} {fdCheck : FuncData} (D_Check : DefAt P w K mg base 4 "_check" fCheck fdCheck ["measure", "roots"] (spCheck0)) {fMultiplied : Addr} {fdMultiplied : FuncData} (D_Multiplied : DefAt P w K mg base 3 "_multiplied" fMultiplied fdMultiplied ["measure", "one", "other"] (spTimes)) : FnOk P w K mg base CX0 5 f fd ["measure", "one", "other"] (spTimes) := by
  refine F.ok scRootTimes (fun vs H Q E h => ?_) (fun cdv A outer s H vs Q E hr h => ?_)
  · obtain ⟨D, a, b, t, u, n, m, rfl, _⟩ := h
    rfl
  · obtain ⟨D, a, b, t, u, n, m, rfl, T2, hnm, kk⟩ := h
    refine ⟨_, (pss_cons (ps_expr (pe_d D_Check hr (pa_cons (pv 0) (pa_cons (pe_tup (pa_cons (pv 1) (pa_cons (pv 2) pa_nil))) pa_nil))))
        (pss_one (ps_ret (pe_d D_Multiplied hr (pa_cons (pv 0) (pa_cons (pv 1) (pa_cons (pv 2) pa_nil))))))), ?_⟩
    have e0 : start N_RootTimes [.int D, .ref a, .ref b] = [some (.int D), some (.ref a), some (.ref b)] := rfl
    rw [e0]
    have e1 : H a = some (.tup [.int t.1, .int t.2.1, .int t.2.2]) := T2.ra.1
    have e2 : H b = some (.tup [.int u.1, .int u.2.1, .int u.2.2]) := T2.rb.1
    obtain ⟨d0, d1⟩ := T2.dn
    have d2 := T2.lt
    obtain ⟨z1, z2, z3⟩ := T2.za
    obtain ⟨y1, y2, y3⟩ := T2.zb
    simp only [cxK, wipe, tYes, List.map_cons, List.map_nil, rIxL, rSum, tSl, rSlL, tNoPart, tPart, exists_and_left, and_assoc, V.ref.injEq, HO.lst.injEq, HO.tup.injEq, tFor_eq, iRng1, iRng2, iList, iTup, tLc_eq, tLst, tTup, gSub, rSetL, gT, gL, gTup, gCons, gNil, atI_0, atI_1, atI_2, atI_3, List.length_cons, List.length_nil, Nat.zero_add, Nat.reduceAdd, Nat.reduceLeDiff, ixN_30, ixN_31, ixN_32, Int.reduceLT, Int.reduceLE, Int.reduceNeg, upd_same, reduceCtorEq, false_and, exists_false, or_false, false_or, tSeq, tNext, tIfS, tRet, tRetN, tDrop, tAsg, gName, tPar, tPar3, tAug, ipI, tVar, tC, tOp, tUn, tCB, tD, tDK, tCons, tNil, rI, rI0, rU, tB, tTest, tAnd, tOr, tNot, tAndV, tOrV, tNotV, tIf, rEq, rNe, scal_ii, scal_bb, scal_ss, rGcd_eq, tBits, List.set_cons_zero, List.set_cons_succ, List.getElem?_cons_zero, List.getElem?_cons_succ, Option.some.injEq, exists_eq_left', V.int.injEq, V.bl.injEq, V.str.injEq, true_and, and_true, decide_eq_true_eq, List.cons.injEq, exists_eq_left, Bool.false_eq_true, if_false, if_true, ite_true, ite_false, Bool.not_eq_true', decide_eq_false_iff_not, Bool.not_not, e1, e2]
    refine ⟨by decide, fun p np => ⟨D, p, [a, b], rfl, T2.M, by omega, upd_same, fun r hr' => ?_, fun H1 s1 => ?_⟩⟩
    · simp only [List.mem_cons, List.not_mem_nil, or_false] at hr'
      rcases hr' with rfl | rfl
      · exact ⟨t, T2.ra.same (Same.upd np)⟩
      · exact ⟨u, T2.rb.same (Same.upd np)⟩
    · have s2 : Same H H1 := (Same.upd np).trans s1
      exact ⟨D, a, b, t, u, n, m, rfl, T2.same s2, hnm, fun q H2 nq s3 r => kk q H2 (s2.free nq) (s2.trans s3) r⟩

theorem okWholeRoot {f : Addr} {fd : FuncData} (F : Fun K "whole_root" "whole_root" s_WholeRoot f fd) (T : Txt K mg) {fCheckMeasure : Addr} {fdCheckMeasure : FuncData} (D_CheckMeasure : DefAt P w K mg base 3 "check_measure" fCheckMeasure fdCheckMeasure ["measure"] (spCheckMeasure0)) : FnOk P w K mg base CX0 4 f fd ["measure"] (spWholeRoot0) := by
  refine F.ok scWholeRoot (fun vs H Q E h => ?_) (fun cdv A outer s H vs Q E hr h => ?_)
  · obtain ⟨D, rfl, _⟩ := h
    rfl
  · obtain ⟨D, rfl, hM, hD, kk⟩ := h
    refine ⟨_, (pss_cons (ps_expr (pe_d D_CheckMeasure hr (pa_cons (pv 0) pa_nil)))
        (pss_one (ps_ret (pe_callBfun cr_isqrt (by rfl) T.isqrt (pa_cons (pv 0) pa_nil))))), ?_⟩
    have e0 : start N_WholeRoot [.int D] = [some (.int D)] := rfl
    rw [e0]
    simp only [cxK, wipe, tYes, List.map_cons, List.map_nil, rIxL, rSum, tSl, rSlL, tNoPart, tPart, exists_and_left, and_assoc, V.ref.injEq, HO.lst.injEq, HO.tup.injEq, tFor_eq, iRng1, iRng2, iList, iTup, tLc_eq, tLst, tTup, gSub, rSetL, gT, gL, gTup, gCons, gNil, atI_0, atI_1, atI_2, atI_3, List.length_cons, List.length_nil, Nat.zero_add, Nat.reduceAdd, Nat.reduceLeDiff, ixN_30, ixN_31, ixN_32, Int.reduceLT, Int.reduceLE, Int.reduceNeg, upd_same, reduceCtorEq, false_and, exists_false, or_false, false_or, tSeq, tNext, tIfS, tRet, tRetN, tDrop, tAsg, gName, tPar, tPar3, tAug, ipI, tVar, tC, tOp, tUn, tCB, tD, tDK, tCons, tNil, rI, rI0, rU, tB, tTest, tAnd, tOr, tNot, tAndV, tOrV, tNotV, tIf, rEq, rNe, scal_ii, scal_bb, scal_ss, rGcd_eq, tBits, List.set_cons_zero, List.set_cons_succ, List.getElem?_cons_zero, List.getElem?_cons_succ, Option.some.injEq, exists_eq_left', V.int.injEq, V.bl.injEq, V.str.injEq, true_and, and_true, decide_eq_true_eq, List.cons.injEq, exists_eq_left, Bool.false_eq_true, if_false, if_true, ite_true, ite_false, Bool.not_eq_true', decide_eq_false_iff_not, Bool.not_not]
    have h5 := hM.1
    exact ⟨D, rfl, hM, by omega, lg (by omega), kk⟩

theorem okAreWithoutDivisor {f : Addr} {fd : FuncData} (F : Fun K "_are_without_divisor" "_are_without_divisor" s_AreWithoutDivisor f fd) (T : Txt K mg) : FnOk P w K mg base CX0 1 f fd ["one", "other", "third"] (spApart) := by
  refine F.ok scAreWithoutDivisor (fun vs H Q E h => ?_) (fun cdv A outer s H vs Q E hr h => ?_)
  · obtain ⟨a, b, c, rfl, _⟩ := h
    rfl
  · obtain ⟨a, b, c, rfl, kk⟩ := h
    refine ⟨_, (pss_one (ps_ret (pe_cmpR op_eq (pe_callBfun cr_gcd (by rfl) T.gcd (pa_cons (pe_callBfun cr_gcd (by rfl) T.gcd (pa_cons (pv 0) (pa_cons (pv 1) pa_nil))) (pa_cons (pv 2) pa_nil))) pe_int (nomark _)))), ?_⟩
    have e0 : start N_AreWithoutDivisor [.int a, .int b, .int c] = [some (.int a), some (.int b), some (.int c)] := rfl
    rw [e0]
    simp only [cxK, wipe, tYes, List.map_cons, List.map_nil, rIxL, rSum, tSl, rSlL, tNoPart, tPart, exists_and_left, and_assoc, V.ref.injEq, HO.lst.injEq, HO.tup.injEq, tFor_eq, iRng1, iRng2, iList, iTup, tLc_eq, tLst, tTup, gSub, rSetL, gT, gL, gTup, gCons, gNil, atI_0, atI_1, atI_2, atI_3, List.length_cons, List.length_nil, Nat.zero_add, Nat.reduceAdd, Nat.reduceLeDiff, ixN_30, ixN_31, ixN_32, Int.reduceLT, Int.reduceLE, Int.reduceNeg, upd_same, reduceCtorEq, false_and, exists_false, or_false, false_or, tSeq, tNext, tIfS, tRet, tRetN, tDrop, tAsg, gName, tPar, tPar3, tAug, ipI, tVar, tC, tOp, tUn, tCB, tD, tDK, tCons, tNil, rI, rI0, rU, tB, tTest, tAnd, tOr, tNot, tAndV, tOrV, tNotV, tIf, rEq, rNe, scal_ii, scal_bb, scal_ss, rGcd_eq, tBits, List.set_cons_zero, List.set_cons_succ, List.getElem?_cons_zero, List.getElem?_cons_succ, Option.some.injEq, exists_eq_left', V.int.injEq, V.bl.injEq, V.str.injEq, true_and, and_true, decide_eq_true_eq, List.cons.injEq, exists_eq_left, Bool.false_eq_true, if_false, if_true, ite_true, ite_false, Bool.not_eq_true', decide_eq_false_iff_not, Bool.not_not]
    exact kk

theorem okIsCutting {f : Addr} {fd : FuncData} (F : Fun K "is_cutting" "is_cutting" s_IsCutting f fd) (T : Txt K mg) {fAreWholes : Addr} {fdAreWholes : FuncData} (D_AreWholes : DefAt P w K mg base 2 "are_wholes" fAreWholes fdAreWholes ["value", "many"] (spWholes)) {fAreWithoutDivisor : Addr} {fdAreWithoutDivisor : FuncData} (D_AreWithoutDivisor : DefAt P w K mg base 1 "_are_without_divisor" fAreWithoutDivisor fdAreWithoutDivisor ["one", "other", "third"] (spApart)) : FnOk P w K mg base CX0 3 f fd ["value"] (spIsCutting) := by
  refine F.ok scIsCutting (fun vs H Q E h => ?_) (fun cdv A outer s H vs Q E hr h => ?_)
  · obtain ⟨x, rfl, _⟩ := h
    rfl
  · obtain ⟨x, rfl, hV, kk⟩ := h
    refine ⟨_, (pss_cons (ps_if (pt_not (pt_val (pe_d D_AreWholes hr (pa_cons (pv 0) (pa_cons pe_int pa_nil))))) (pss_one (ps_ret pe_bl)) pss_nil)
        (pss_cons (ps_asg (pv 0) (pg_tupT 4 rfl (pgs_cons (pg_name (i := 1) scIsCutting.nd rfl (Or.inl rfl)) (pgs_cons (pg_name (i := 2) scIsCutting.nd rfl (Or.inl rfl)) (pgs_cons (pg_name (i := 3) scIsCutting.nd rfl (Or.inl rfl)) (pgs_cons (pg_name (i := 4) scIsCutting.nd rfl (Or.inl rfl)) pgs_nil))))))
        (pss_cons (ps_if (PW.pt (pw_or (pt_cmpR op_lt (pv 2) pe_int (nomark _)) (pw_or (pt_cmpR op_lt (pv 3) pe_int (nomark _)) (pw_or1 (pt_cmpR op_ge (pe_op op_add (pv 3) (pv 4)) (pv 2) (nomark _)))))) (pss_one (ps_ret pe_bl)) pss_nil)
        (pss_cons (ps_set (i := 5) scIsCutting.nd rfl (Or.inl rfl) (pe_callBfun cr_gcd (by rfl) T.gcd (pa_cons (pv 2) (pa_cons (pv 3) pa_nil))))
        (pss_one (ps_ret (pe_and (pe_chain op_le op_lt pe_int (pv 1) (pv 5)) (pe_one (pe_d D_AreWithoutDivisor hr (pa_cons (pv 1) (pa_cons (pv 5) (pa_cons (pv 4) pa_nil)))))))))))), ?_⟩
    have e0 : start N_IsCutting [x] = [some x, none, none, none, none, none] := rfl
    rw [e0]
    simp only [cxK, wipe, tYes, List.map_cons, List.map_nil, rIxL, rSum, tSl, rSlL, tNoPart, tPart, exists_and_left, and_assoc, V.ref.injEq, HO.lst.injEq, HO.tup.injEq, tFor_eq, iRng1, iRng2, iList, iTup, tLc_eq, tLst, tTup, gSub, rSetL, gT, gL, gTup, gCons, gNil, atI_0, atI_1, atI_2, atI_3, List.length_cons, List.length_nil, Nat.zero_add, Nat.reduceAdd, Nat.reduceLeDiff, ixN_30, ixN_31, ixN_32, Int.reduceLT, Int.reduceLE, Int.reduceNeg, upd_same, reduceCtorEq, false_and, exists_false, or_false, false_or, tSeq, tNext, tIfS, tRet, tRetN, tDrop, tAsg, gName, tPar, tPar3, tAug, ipI, tVar, tC, tOp, tUn, tCB, tD, tDK, tCons, tNil, rI, rI0, rU, tB, tTest, tAnd, tOr, tNot, tAndV, tOrV, tNotV, tIf, rEq, rNe, scal_ii, scal_bb, scal_ss, rGcd_eq, tBits, List.set_cons_zero, List.set_cons_succ, List.getElem?_cons_zero, List.getElem?_cons_succ, Option.some.injEq, exists_eq_left', V.int.injEq, V.bl.injEq, V.str.injEq, true_and, and_true, decide_eq_true_eq, List.cons.injEq, exists_eq_left, Bool.false_eq_true, if_false, if_true, ite_true, ite_false, Bool.not_eq_true', decide_eq_false_iff_not, Bool.not_not]
    refine ⟨x, 4, rfl, by decide, hV, fun H1 s1 => ⟨_, rfl, ?_⟩⟩
    cases hw : wholesB H 4 x with
    | false =>
      rw [if_pos rfl]
      rw [cutB_not hw] at kk
      exact kk _ s1
    | true =>
      rw [if_neg (by decide)]
      obtain ⟨p, a, b, c, e, rfl, ha⟩ := wholes4 hw
      rw [cutB4 ha] at kk
      have e1 := s1 _ _ ha
      simp only [cxK, wipe, tYes, List.map_cons, List.map_nil, rIxL, rSum, tSl, rSlL, tNoPart, tPart, exists_and_left, and_assoc, V.ref.injEq, HO.lst.injEq, HO.tup.injEq, tFor_eq, iRng1, iRng2, iList, iTup, tLc_eq, tLst, tTup, gSub, rSetL, gT, gL, gTup, gCons, gNil, atI_0, atI_1, atI_2, atI_3, List.length_cons, List.length_nil, Nat.zero_add, Nat.reduceAdd, Nat.reduceLeDiff, ixN_30, ixN_31, ixN_32, Int.reduceLT, Int.reduceLE, Int.reduceNeg, upd_same, reduceCtorEq, false_and, exists_false, or_false, false_or, tSeq, tNext, tIfS, tRet, tRetN, tDrop, tAsg, gName, tPar, tPar3, tAug, ipI, tVar, tC, tOp, tUn, tCB, tD, tDK, tCons, tNil, rI, rI0, rU, tB, tTest, tAnd, tOr, tNot, tAndV, tOrV, tNotV, tIf, rEq, rNe, scal_ii, scal_bb, scal_ss, rGcd_eq, tBits, List.set_cons_zero, List.set_cons_succ, List.getElem?_cons_zero, List.getElem?_cons_succ, Option.some.injEq, exists_eq_left', V.int.injEq, V.bl.injEq, V.str.injEq, true_and, and_true, decide_eq_true_eq, List.cons.injEq, exists_eq_left, Bool.false_eq_true, if_false, if_true, ite_true, ite_false, Bool.not_eq_true', decide_eq_false_iff_not, Bool.not_not, e1]
      unfold CutOk at kk
      refine ite2 (fun h1 => ?_) (fun h1 => ?_)
      · rw [decide_eq_false (show ¬ 1 ≤ b by omega), Bool.false_and] at kk
        exact kk _ s1
      · rw [decide_eq_true (show 1 ≤ b by omega), Bool.true_and] at kk
        refine ite2 (fun h2 => ?_) (fun h2 => ?_)
        · rw [decide_eq_false (show ¬ 1 ≤ c by omega), Bool.false_and] at kk
          exact kk _ s1
        · rw [decide_eq_true (show 1 ≤ c by omega), Bool.true_and] at kk
          refine ite2 (fun h3 => ?_) (fun h3 => ?_)
          · rw [decide_eq_false (show ¬ c + e < b by omega), Bool.false_and] at kk
            exact kk _ s1
          · rw [decide_eq_true (show c + e < b by omega), Bool.true_and] at kk
            simp only [cxK, wipe, tYes, List.map_cons, List.map_nil, rIxL, rSum, tSl, rSlL, tNoPart, tPart, exists_and_left, and_assoc, V.ref.injEq, HO.lst.injEq, HO.tup.injEq, tFor_eq, iRng1, iRng2, iList, iTup, tLc_eq, tLst, tTup, gSub, rSetL, gT, gL, gTup, gCons, gNil, atI_0, atI_1, atI_2, atI_3, List.length_cons, List.length_nil, Nat.zero_add, Nat.reduceAdd, Nat.reduceLeDiff, ixN_30, ixN_31, ixN_32, Int.reduceLT, Int.reduceLE, Int.reduceNeg, upd_same, reduceCtorEq, false_and, exists_false, or_false, false_or, tSeq, tNext, tIfS, tRet, tRetN, tDrop, tAsg, gName, tPar, tPar3, tAug, ipI, tVar, tC, tOp, tUn, tCB, tD, tDK, tCons, tNil, rI, rI0, rU, tB, tTest, tAnd, tOr, tNot, tAndV, tOrV, tNotV, tIf, rEq, rNe, scal_ii, scal_bb, scal_ss, rGcd_eq, tBits, List.set_cons_zero, List.set_cons_succ, List.getElem?_cons_zero, List.getElem?_cons_succ, Option.some.injEq, exists_eq_left', V.int.injEq, V.bl.injEq, V.str.injEq, true_and, and_true, decide_eq_true_eq, List.cons.injEq, exists_eq_left, Bool.false_eq_true, if_false, if_true, ite_true, ite_false, Bool.not_eq_true', decide_eq_false_iff_not, Bool.not_not, tChain]
            refine ite2 (fun h4 => ?_) (fun h4 => ?_)
            · rw [decide_eq_true h4, Bool.true_and] at kk
              refine ite2 (fun h5 => ?_) (fun h5 => ?_)
              · rw [decide_eq_true h5, Bool.true_and] at kk
                exact ⟨a, gcdI b c, e, rfl, kk _ s1⟩
              · rw [decide_eq_false h5, Bool.false_and] at kk
                exact kk _ s1
            · rw [decide_eq_false h4, Bool.false_and] at kk
              exact kk _ s1

theorem okCheckCutting {f : Addr} {fd : FuncData} (F : Fun K "check_cutting" "check_cutting" s_CheckCutting f fd) (T : Txt K mg) {fIsCutting : Addr} {fdIsCutting : FuncData} (D_IsCutting : DefAt P w K mg base 3 "is_cutting" fIsCutting fdIsCutting ["value"] (spIsCutting)) : FnOk P w K mg base CX0 4 f fd ["cutting"] (spCheckCut0) := by
  refine F.ok scCheckCutting (fun vs H Q E h => ?_) (fun cdv A outer s H vs Q E hr h => ?_)
  · obtain ⟨p, q, rfl, _⟩ := h
    rfl
  · obtain ⟨p, q, rfl, hC, kk⟩ := h
    refine ⟨_, (pss_one (ps_if (pt_not (pt_val (pe_d D_IsCutting hr (pa_cons (pv 0) pa_nil)))) (pss_one ps_never) pss_nil)), ?_⟩
    have e0 : start N_CheckCutting [.ref p] = [some (.ref p)] := rfl
    rw [e0]
    simp only [cxK, wipe, tYes, List.map_cons, List.map_nil, rIxL, rSum, tSl, rSlL, tNoPart, tPart, exists_and_left, and_assoc, V.ref.injEq, HO.lst.injEq, HO.tup.injEq, tFor_eq, iRng1, iRng2, iList, iTup, tLc_eq, tLst, tTup, gSub, rSetL, gT, gL, gTup, gCons, gNil, atI_0, atI_1, atI_2, atI_3, List.length_cons, List.length_nil, Nat.zero_add, Nat.reduceAdd, Nat.reduceLeDiff, ixN_30, ixN_31, ixN_32, Int.reduceLT, Int.reduceLE, Int.reduceNeg, upd_same, reduceCtorEq, false_and, exists_false, or_false, false_or, tSeq, tNext, tIfS, tRet, tRetN, tDrop, tAsg, gName, tPar, tPar3, tAug, ipI, tVar, tC, tOp, tUn, tCB, tD, tDK, tCons, tNil, rI, rI0, rU, tB, tTest, tAnd, tOr, tNot, tAndV, tOrV, tNotV, tIf, rEq, rNe, scal_ii, scal_bb, scal_ss, rGcd_eq, tBits, List.set_cons_zero, List.set_cons_succ, List.getElem?_cons_zero, List.getElem?_cons_succ, Option.some.injEq, exists_eq_left', V.int.injEq, V.bl.injEq, V.str.injEq, true_and, and_true, decide_eq_true_eq, List.cons.injEq, exists_eq_left, Bool.false_eq_true, if_false, if_true, ite_true, ite_false, Bool.not_eq_true', decide_eq_false_iff_not, Bool.not_not]
    refine ⟨.ref p, rfl, cutAt_okV hC.at', fun H1 s1 => ?_⟩
    rw [cutB_q hC.at', hC.ok]
    refine ⟨true, rfl, ?_⟩
    rw [if_neg (by decide)]
    exact kk _ s1

theorem okMeasureOf {f : Addr} {fd : FuncData} (F : Fun K "measure_of" "measure_of" s_MeasureOf f fd) (T : Txt K mg) {fCheckCutting : Addr} {fdCheckCutting : FuncData} (D_CheckCutting : DefAt P w K mg base 4 "check_cutting" fCheckCutting fdCheckCutting ["cutting"] (spCheckCut0)) : FnOk P w K mg base CX0 5 f fd ["cutting"] (spMeasureOf0) := by
  refine F.ok scMeasureOf (fun vs H Q E h => ?_) (fun cdv A outer s H vs Q E hr h => ?_)
  · obtain ⟨p, q, rfl, _⟩ := h
    rfl
  · obtain ⟨p, q, rfl, hC, hz, kk⟩ := h
    refine ⟨_, (pss_cons (ps_expr (pe_d D_CheckCutting hr (pa_cons (pv 0) pa_nil)))
        (pss_cons (ps_asg (pv 0) (pg_tupT 4 rfl (pgs_cons (pg_name (i := 1) scMeasureOf.nd rfl (Or.inl rfl)) (pgs_cons (pg_name (i := 2) scMeasureOf.nd rfl (Or.inl rfl)) (pgs_cons (pg_name (i := 3) scMeasureOf.nd rfl (Or.inl rfl)) (pgs_cons (pg_name (i := 4) scMeasureOf.nd rfl (Or.inl rfl)) pgs_nil))))))
        (pss_one (ps_ret (pe_op op_add (pe_op op_mulU (pv 4) (pv 4)) (pe_op op_mulU (pe_op op_mulU pe_int (pv 2)) (pv 3))))))), ?_⟩
    have e0 : start N_MeasureOf [.ref p] = [some (.ref p), none, none, none, none] := rfl
    rw [e0]
    simp only [cxK, wipe, tYes, List.map_cons, List.map_nil, rIxL, rSum, tSl, rSlL, tNoPart, tPart, exists_and_left, and_assoc, V.ref.injEq, HO.lst.injEq, HO.tup.injEq, tFor_eq, iRng1, iRng2, iList, iTup, tLc_eq, tLst, tTup, gSub, rSetL, gT, gL, gTup, gCons, gNil, atI_0, atI_1, atI_2, atI_3, List.length_cons, List.length_nil, Nat.zero_add, Nat.reduceAdd, Nat.reduceLeDiff, ixN_30, ixN_31, ixN_32, Int.reduceLT, Int.reduceLE, Int.reduceNeg, upd_same, reduceCtorEq, false_and, exists_false, or_false, false_or, tSeq, tNext, tIfS, tRet, tRetN, tDrop, tAsg, gName, tPar, tPar3, tAug, ipI, tVar, tC, tOp, tUn, tCB, tD, tDK, tCons, tNil, rI, rI0, rU, tB, tTest, tAnd, tOr, tNot, tAndV, tOrV, tNotV, tIf, rEq, rNe, scal_ii, scal_bb, scal_ss, rGcd_eq, tBits, List.set_cons_zero, List.set_cons_succ, List.getElem?_cons_zero, List.getElem?_cons_succ, Option.some.injEq, exists_eq_left', V.int.injEq, V.bl.injEq, V.str.injEq, true_and, and_true, decide_eq_true_eq, List.cons.injEq, exists_eq_left, Bool.false_eq_true, if_false, if_true, ite_true, ite_false, Bool.not_eq_true', decide_eq_false_iff_not, Bool.not_not]
    refine ⟨p, q, rfl, hC, fun H1 s1 => ?_⟩
    have e1 : H1 p = some (.tup [.int q.1, .int q.2.1, .int q.2.2.1, .int q.2.2.2]) := (hC.same s1).at'
    simp only [cxK, wipe, tYes, List.map_cons, List.map_nil, rIxL, rSum, tSl, rSlL, tNoPart, tPart, exists_and_left, and_assoc, V.ref.injEq, HO.lst.injEq, HO.tup.injEq, tFor_eq, iRng1, iRng2, iList, iTup, tLc_eq, tLst, tTup, gSub, rSetL, gT, gL, gTup, gCons, gNil, atI_0, atI_1, atI_2, atI_3, List.length_cons, List.length_nil, Nat.zero_add, Nat.reduceAdd, Nat.reduceLeDiff, ixN_30, ixN_31, ixN_32, Int.reduceLT, Int.reduceLE, Int.reduceNeg, upd_same, reduceCtorEq, false_and, exists_false, or_false, false_or, tSeq, tNext, tIfS, tRet, tRetN, tDrop, tAsg, gName, tPar, tPar3, tAug, ipI, tVar, tC, tOp, tUn, tCB, tD, tDK, tCons, tNil, rI, rI0, rU, tB, tTest, tAnd, tOr, tNot, tAndV, tOrV, tNotV, tIf, rEq, rNe, scal_ii, scal_bb, scal_ss, rGcd_eq, tBits, List.set_cons_zero, List.set_cons_succ, List.getElem?_cons_zero, List.getElem?_cons_succ, Option.some.injEq, exists_eq_left', V.int.injEq, V.bl.injEq, V.str.injEq, true_and, and_true, decide_eq_true_eq, List.cons.injEq, exists_eq_left, Bool.false_eq_true, if_false, if_true, ite_true, ite_false, Bool.not_eq_true', decide_eq_false_iff_not, Bool.not_not, e1]
    obtain ⟨z1, z2, z3, z4⟩ := hz
    exact ⟨okm z4 z4 (by decide) (by decide), okm (n := 3) (by decide) z2 (by decide) (by decide), okm (wide_lt (show (4 : Int).natAbs < 2 ^ 3 by decide) z2) z3 (by decide) (by decide), kk _ s1⟩

theorem okLawMeasure {f : Addr} {fd : FuncData} (F : Fun K "_law_measure" "_law_measure" s_LawMeasure f fd) (T : Txt K mg) : FnOk P w K mg base CX0 1 f fd ["_law_cutting"] (spLawMeasure4) := by
  refine F.ok scLawMeasure (fun vs H Q E h => ?_) (fun cdv A outer s H vs Q E hr h => ?_)
  · obtain ⟨p, q, rfl, _⟩ := h
    rfl
  · obtain ⟨p, q, rfl, hC, hz, kk⟩ := h
    refine ⟨_, (pss_one (ps_ret (pe_op op_add (pe_op op_mulU (pe_ix ixT (pv 0) pe_int (fun _ _ => rfl)) (pe_ix ixT (pv 0) pe_int (fun _ _ => rfl))) (pe_op op_mulU (pe_op op_mulU pe_int (pe_ix ixT (pv 0) pe_int (fun _ _ => rfl))) (pe_ix ixT (pv 0) pe_int (fun _ _ => rfl)))))), ?_⟩
    have e0 : start N_LawMeasure [.ref p] = [some (.ref p)] := rfl
    rw [e0]
    have e1 : H p = some (.tup [.int q.1, .int q.2.1, .int q.2.2.1, .int q.2.2.2]) := hC
    simp only [cxK, wipe, tYes, List.map_cons, List.map_nil, rIxL, rSum, tSl, rSlL, tNoPart, tPart, exists_and_left, and_assoc, V.ref.injEq, HO.lst.injEq, HO.tup.injEq, tFor_eq, iRng1, iRng2, iList, iTup, tLc_eq, tLst, tTup, gSub, rSetL, gT, gL, gTup, gCons, gNil, atI_0, atI_1, atI_2, atI_3, List.length_cons, List.length_nil, Nat.zero_add, Nat.reduceAdd, Nat.reduceLeDiff, ixN_30, ixN_31, ixN_32, Int.reduceLT, Int.reduceLE, Int.reduceNeg, upd_same, reduceCtorEq, false_and, exists_false, or_false, false_or, tSeq, tNext, tIfS, tRet, tRetN, tDrop, tAsg, gName, tPar, tPar3, tAug, ipI, tVar, tC, tOp, tUn, tCB, tD, tDK, tCons, tNil, rI, rI0, rU, tB, tTest, tAnd, tOr, tNot, tAndV, tOrV, tNotV, tIf, rEq, rNe, scal_ii, scal_bb, scal_ss, rGcd_eq, tBits, List.set_cons_zero, List.set_cons_succ, List.getElem?_cons_zero, List.getElem?_cons_succ, Option.some.injEq, exists_eq_left', V.int.injEq, V.bl.injEq, V.str.injEq, true_and, and_true, decide_eq_true_eq, List.cons.injEq, exists_eq_left, Bool.false_eq_true, if_false, if_true, ite_true, ite_false, Bool.not_eq_true', decide_eq_false_iff_not, Bool.not_not, e1]
    obtain ⟨z1, z2, z3, z4⟩ := hz
    exact ⟨okm z4 z4 (by decide) (by decide), okm (n := 3) (by decide) z2 (by decide) (by decide), okm (wide_lt (show (4 : Int).natAbs < 2 ^ 3 by decide) z2) z3 (by decide) (by decide), kk⟩

theorem okLawIsCutting {f : Addr} {fd : FuncData} (F : Fun K "_law_is_cutting" "_law_is_cutting" s_LawIsCutting f fd) (T : Txt K mg) {fLawCommon : Addr} {fdLawCommon : FuncData} (D_LawCommon : DefAt P w K mg base 1 "_law_common" fLawCommon fdLawCommon ["_law_one", "_law_other"] (spCommon)) : FnOk P w K mg base CX0 2 f fd ["_law_a", "_law_b", "_law_c", "_law_e"] (spLawIsCutting) := by
  refine F.ok scLawIsCutting (fun vs H Q E h => ?_) (fun cdv A outer s H vs Q E hr h => ?_)
  · obtain ⟨a, b, c, e, rfl, _⟩ := h
    rfl
  · obtain ⟨a, b, c, e, rfl, kk⟩ := h
    refine ⟨_, (pss_cons (ps_if (PW.pt (pw_or (pt_cmpR op_lt (pv 1) pe_int (nomark _)) (pw_or (pt_cmpR op_lt (pv 2) pe_int (nomark _)) (pw_or (pt_cmpR op_ge (pe_op op_add (pv 2) (pv 3)) (pv 1) (nomark _)) (pw_or1 (pt_not (pt_chain op_le op_lt pe_int (pv 0) (pe_d D_LawCommon hr (pa_cons (pv 1) (pa_cons (pv 2) pa_nil)))))))))) (pss_one (ps_ret pe_bl)) pss_nil)
        (pss_one (ps_ret (pe_cmpR op_eq (pe_d D_LawCommon hr (pa_cons (pe_d D_LawCommon hr (pa_cons (pv 0) (pa_cons (pv 1) pa_nil))) (pa_cons (pe_d D_LawCommon hr (pa_cons (pv 2) (pa_cons (pv 3) pa_nil))) pa_nil))) pe_int (nomark _))))), ?_⟩
    have e0 : start N_LawIsCutting [.int a, .int b, .int c, .int e] = [some (.int a), some (.int b), some (.int c), some (.int e)] := rfl
    rw [e0]
    simp only [cxK, wipe, tYes, List.map_cons, List.map_nil, rIxL, rSum, tSl, rSlL, tNoPart, tPart, exists_and_left, and_assoc, V.ref.injEq, HO.lst.injEq, HO.tup.injEq, tFor_eq, iRng1, iRng2, iList, iTup, tLc_eq, tLst, tTup, gSub, rSetL, gT, gL, gTup, gCons, gNil, atI_0, atI_1, atI_2, atI_3, List.length_cons, List.length_nil, Nat.zero_add, Nat.reduceAdd, Nat.reduceLeDiff, ixN_30, ixN_31, ixN_32, Int.reduceLT, Int.reduceLE, Int.reduceNeg, upd_same, reduceCtorEq, false_and, exists_false, or_false, false_or, tSeq, tNext, tIfS, tRet, tRetN, tDrop, tAsg, gName, tPar, tPar3, tAug, ipI, tVar, tC, tOp, tUn, tCB, tD, tDK, tCons, tNil, rI, rI0, rU, tB, tTest, tAnd, tOr, tNot, tAndV, tOrV, tNotV, tIf, rEq, rNe, scal_ii, scal_bb, scal_ss, rGcd_eq, tBits, List.set_cons_zero, List.set_cons_succ, List.getElem?_cons_zero, List.getElem?_cons_succ, Option.some.injEq, exists_eq_left', V.int.injEq, V.bl.injEq, V.str.injEq, true_and, and_true, decide_eq_true_eq, List.cons.injEq, exists_eq_left, Bool.false_eq_true, if_false, if_true, ite_true, ite_false, Bool.not_eq_true', decide_eq_false_iff_not, Bool.not_not]
    unfold CutOk at kk
    refine ite2 (fun h1 => ?_) (fun h1 => ?_)
    · rw [decide_eq_false (show ¬ 1 ≤ b by omega), Bool.false_and] at kk
      exact kk
    · rw [decide_eq_true (show 1 ≤ b by omega), Bool.true_and] at kk
      refine ite2 (fun h2 => ?_) (fun h2 => ?_)
      · rw [decide_eq_false (show ¬ 1 ≤ c by omega), Bool.false_and] at kk
        exact kk
      · rw [decide_eq_true (show 1 ≤ c by omega), Bool.true_and] at kk
        refine ite2 (fun h3 => ?_) (fun h3 => ?_)
        · rw [decide_eq_false (show ¬ c + e < b by omega), Bool.false_and] at kk
          exact kk
        · rw [decide_eq_true (show c + e < b by omega), Bool.true_and] at kk
          simp only [cxK, wipe, tYes, List.map_cons, List.map_nil, rIxL, rSum, tSl, rSlL, tNoPart, tPart, exists_and_left, and_assoc, V.ref.injEq, HO.lst.injEq, HO.tup.injEq, tFor_eq, iRng1, iRng2, iList, iTup, tLc_eq, tLst, tTup, gSub, rSetL, gT, gL, gTup, gCons, gNil, atI_0, atI_1, atI_2, atI_3, List.length_cons, List.length_nil, Nat.zero_add, Nat.reduceAdd, Nat.reduceLeDiff, ixN_30, ixN_31, ixN_32, Int.reduceLT, Int.reduceLE, Int.reduceNeg, upd_same, reduceCtorEq, false_and, exists_false, or_false, false_or, tSeq, tNext, tIfS, tRet, tRetN, tDrop, tAsg, gName, tPar, tPar3, tAug, ipI, tVar, tC, tOp, tUn, tCB, tD, tDK, tCons, tNil, rI, rI0, rU, tB, tTest, tAnd, tOr, tNot, tAndV, tOrV, tNotV, tIf, rEq, rNe, scal_ii, scal_bb, scal_ss, rGcd_eq, tBits, List.set_cons_zero, List.set_cons_succ, List.getElem?_cons_zero, List.getElem?_cons_succ, Option.some.injEq, exists_eq_left', V.int.injEq, V.bl.injEq, V.str.injEq, true_and, and_true, decide_eq_true_eq, List.cons.injEq, exists_eq_left, Bool.false_eq_true, if_false, if_true, ite_true, ite_false, Bool.not_eq_true', decide_eq_false_iff_not, Bool.not_not, tChain]
          refine ite2 (fun h4 => ?_) (fun h4 => ?_)
          · rw [decide_eq_true h4, Bool.true_and] at kk
            refine ⟨b, c, rfl, _, rfl, ite2 (fun h5 => ?_) (fun h5 => ?_)⟩
            · rw [decide_eq_false h5, Bool.false_and] at kk
              exact kk
            · rw [decide_eq_true (Decidable.not_not.mp h5), Bool.true_and] at kk
              refine ⟨a, b, rfl, c, e, rfl, _, _, rfl, ?_⟩
              simp only [cxK, wipe, tYes, List.map_cons, List.map_nil, rIxL, rSum, tSl, rSlL, tNoPart, tPart, exists_and_left, and_assoc, V.ref.injEq, HO.lst.injEq, HO.tup.injEq, tFor_eq, iRng1, iRng2, iList, iTup, tLc_eq, tLst, tTup, gSub, rSetL, gT, gL, gTup, gCons, gNil, atI_0, atI_1, atI_2, atI_3, List.length_cons, List.length_nil, Nat.zero_add, Nat.reduceAdd, Nat.reduceLeDiff, ixN_30, ixN_31, ixN_32, Int.reduceLT, Int.reduceLE, Int.reduceNeg, upd_same, reduceCtorEq, false_and, exists_false, or_false, false_or, tSeq, tNext, tIfS, tRet, tRetN, tDrop, tAsg, gName, tPar, tPar3, tAug, ipI, tVar, tC, tOp, tUn, tCB, tD, tDK, tCons, tNil, rI, rI0, rU, tB, tTest, tAnd, tOr, tNot, tAndV, tOrV, tNotV, tIf, rEq, rNe, scal_ii, scal_bb, scal_ss, rGcd_eq, tBits, List.set_cons_zero, List.set_cons_succ, List.getElem?_cons_zero, List.getElem?_cons_succ, Option.some.injEq, exists_eq_left', V.int.injEq, V.bl.injEq, V.str.injEq, true_and, and_true, decide_eq_true_eq, List.cons.injEq, exists_eq_left, Bool.false_eq_true, if_false, if_true, ite_true, ite_false, Bool.not_eq_true', decide_eq_false_iff_not, Bool.not_not]
              rw [gcd4]
              exact kk
          · rw [decide_eq_false h4, Bool.false_and] at kk
            exact kk

theorem okLawDrawn {f : Addr} {fd : FuncData} (F : Fun K "_law_drawn" "_law_drawn" s_LawDrawn f fd) (T : Txt K mg) {fLawRandom : Addr} {fdLawRandom : FuncData} (D_LawRandom : DefAt P w K mg base 2 "_law_random" fLawRandom fdLawRandom ["_law_generator_here", "_law_bound"] (spRandom)) {fLawCommon : Addr} {fdLawCommon : FuncData} (D_LawCommon : DefAt P w K mg base 1 "_law_common" fLawCommon fdLawCommon ["_law_one", "_law_other"] (spCommon)) : FnOk P w K mg base CX0 3 f fd ["_law_generator_here", "_law_most"] (spDrawnCut) := by
  refine F.ok scLawDrawn (fun vs H Q E h => ?_) (fun cdv A outer s H vs Q E hr h => ?_)
  · obtain ⟨g, n, k, rfl, _⟩ := h
    rfl
  · obtain ⟨g, n, k, rfl, hG, hk, hn1, hn2, kk⟩ := h
    refine ⟨_, (pss_cons (ps_par (i := 2) (j := 3) rfl scLawDrawn.nd rfl rfl (by decide) rfl rfl (pa_cons (pe_op op_add pe_int (pe_d D_LawRandom hr (pa_cons (pv 0) (pa_cons (pv 1) pa_nil)))) (pa_cons (pe_op op_sub (pe_d D_LawRandom hr (pa_cons (pv 0) (pa_cons (pe_op op_mulU pe_int (pv 1)) pa_nil))) (pv 1)) pa_nil)) rfl)
        (pss_cons (ps_set (i := 4) scLawDrawn.nd rfl (Or.inl rfl) (pe_op op_add pe_int (pe_d D_LawRandom hr (pa_cons (pv 0) (pa_cons pe_int pa_nil)))))
        (pss_cons (ps_par (i := 5) (j := 2) rfl scLawDrawn.nd rfl rfl (by decide) rfl rfl (pa_cons (pe_op op_mulU (pv 4) (pe_op op_add pe_int (pe_d D_LawRandom hr (pa_cons (pv 0) (pa_cons (pv 1) pa_nil))))) (pa_cons (pe_op op_mulU (pv 4) (pv 2)) pa_nil)) rfl)
        (pss_one (ps_ret (pe_tup (pa_cons (pe_d D_LawRandom hr (pa_cons (pv 0) (pa_cons (pe_op op_add (pe_d D_LawCommon hr (pa_cons (pv 5) (pa_cons (pv 2) pa_nil))) pe_int) pa_nil))) (pa_cons (pv 5) (pa_cons (pv 2) (pa_cons (pv 3) pa_nil)))))))))), ?_⟩
    have e0 : start N_LawDrawn [.ref g, .int n] = [some (.ref g), some (.int n), none, none, none, none] := rfl
    rw [e0]
    simp only [cxK, wipe, tYes, List.map_cons, List.map_nil, rIxL, rSum, tSl, rSlL, tNoPart, tPart, exists_and_left, and_assoc, V.ref.injEq, HO.lst.injEq, HO.tup.injEq, tFor_eq, iRng1, iRng2, iList, iTup, tLc_eq, tLst, tTup, gSub, rSetL, gT, gL, gTup, gCons, gNil, atI_0, atI_1, atI_2, atI_3, List.length_cons, List.length_nil, Nat.zero_add, Nat.reduceAdd, Nat.reduceLeDiff, ixN_30, ixN_31, ixN_32, Int.reduceLT, Int.reduceLE, Int.reduceNeg, upd_same, reduceCtorEq, false_and, exists_false, or_false, false_or, tSeq, tNext, tIfS, tRet, tRetN, tDrop, tAsg, gName, tPar, tPar3, tAug, ipI, tVar, tC, tOp, tUn, tCB, tD, tDK, tCons, tNil, rI, rI0, rU, tB, tTest, tAnd, tOr, tNot, tAndV, tOrV, tNotV, tIf, rEq, rNe, scal_ii, scal_bb, scal_ss, rGcd_eq, tBits, List.set_cons_zero, List.set_cons_succ, List.getElem?_cons_zero, List.getElem?_cons_succ, Option.some.injEq, exists_eq_left', V.int.injEq, V.bl.injEq, V.str.injEq, true_and, and_true, decide_eq_true_eq, List.cons.injEq, exists_eq_left, Bool.false_eq_true, if_false, if_true, ite_true, ite_false, Bool.not_eq_true', decide_eq_false_iff_not, Bool.not_not]
    refine ⟨g, n, k, rfl, hG, by omega, hn1, by omega, fun c H1 c0 c1 G1 K1 => ⟨c, rfl, cml (by decide) (by decide), ?_⟩⟩
    refine ⟨g, 2 * n, k + 20, rfl, G1, by omega, by omega, by omega, fun e H2 e0' e1 G2 K2 => ⟨e, rfl, ?_⟩⟩
    refine ⟨g, 6, k + 40, rfl, G2, by omega, by decide, by decide, fun r H3 r0 r1 G3 K3 => ⟨r, rfl, ?_⟩⟩
    refine ⟨g, n, k + 60, rfl, G3, by omega, hn1, by omega, fun b H4 b0 b1 G4 K4 => ⟨b, rfl, ?_⟩⟩
    have w0 : (1 + r).natAbs < 2 ^ 3 := by omega
    have w1 : (1 + b).natAbs < 2 ^ 51 := by omega
    have w2 : (1 + c).natAbs < 2 ^ 51 := by omega
    have x1 := wide_lt w0 w1
    have x2 := wide_lt w0 w2
    have hne : (1 + r) * (1 + c) ≠ 0 := mul_ne (by omega) (by omega)
    refine ⟨okm w0 w1 (by decide) (by decide), okm w0 w2 (by decide) (by decide), _, _, rfl, _, rfl, ?_⟩
    have g0 := gcdI_nn ((1 + r) * (1 + b)) ((1 + r) * (1 + c))
    have g1 := gcdI_le (a := (1 + r) * (1 + b)) hne
    generalize gcdI ((1 + r) * (1 + b)) ((1 + r) * (1 + c)) = gg at *
    refine ⟨g, _, k + 80, rfl, G4, by omega, by omega, by omega, fun a H5 a0 a1 G5 K5 => ?_⟩
    refine ⟨by decide, fun p np => ?_⟩
    have hpg := G5.nn np
    have KK := (((K1.trans K2).trans K3).trans K4).trans K5
    exact kk (a, (1 + r) * (1 + b), (1 + r) * (1 + c), e - n) p _ ⟨show a.natAbs < 2 ^ 70 by omega, up x1 (by decide), up x2 (by decide), show (e - n).natAbs < 2 ^ 70 by omega⟩ (KK.free hpg np) upd_same ((G5.upd hpg).mono (by omega)) (KK.trans (Keep.of (Same.upd np)))

theorem okLawRootRight {f : Addr} {fd : FuncData} (F : Fun K "_law_root_right" "_law_root_right" s_LawRootRight f fd) (T : Txt K mg) {fWholeRoot : Addr} {fdWholeRoot : FuncData} (D_WholeRoot : DefAt P w K mg base 4 "whole_root" fWholeRoot fdWholeRoot ["measure"] (spWholeRoot0)) : FnOk P w K mg base CX0 5 f fd ["_law_measure_here"] (spRootRight) := by
  refine F.ok scLawRootRight (fun vs H Q E h => ?_) (fun cdv A outer s H vs Q E hr h => ?_)
  · obtain ⟨D, rfl, _⟩ := h
    rfl
  · obtain ⟨D, rfl, hM, hD, kk⟩ := h
    refine ⟨_, (pss_cons (ps_set (i := 1) scLawRootRight.nd rfl (Or.inl rfl) (pe_d D_WholeRoot hr (pa_cons (pv 0) pa_nil)))
        (pss_one (ps_ret (pe_chain op_le op_lt (pe_op op_mulU (pv 1) (pv 1)) (pv 0) (pe_op op_mulU (pe_op op_add (pv 1) pe_int) (pe_op op_add (pv 1) pe_int)))))), ?_⟩
    have e0 : start N_LawRootRight [.int D] = [some (.int D), none] := rfl
    rw [e0]
    simp only [cxK, wipe, tYes, List.map_cons, List.map_nil, rIxL, rSum, tSl, rSlL, tNoPart, tPart, exists_and_left, and_assoc, V.ref.injEq, HO.lst.injEq, HO.tup.injEq, tFor_eq, iRng1, iRng2, iList, iTup, tLc_eq, tLst, tTup, gSub, rSetL, gT, gL, gTup, gCons, gNil, atI_0, atI_1, atI_2, atI_3, List.length_cons, List.length_nil, Nat.zero_add, Nat.reduceAdd, Nat.reduceLeDiff, ixN_30, ixN_31, ixN_32, Int.reduceLT, Int.reduceLE, Int.reduceNeg, upd_same, reduceCtorEq, false_and, exists_false, or_false, false_or, tSeq, tNext, tIfS, tRet, tRetN, tDrop, tAsg, gName, tPar, tPar3, tAug, ipI, tVar, tC, tOp, tUn, tCB, tD, tDK, tCons, tNil, rI, rI0, rU, tB, tTest, tAnd, tOr, tNot, tAndV, tOrV, tNotV, tIf, rEq, rNe, scal_ii, scal_bb, scal_ss, rGcd_eq, tBits, List.set_cons_zero, List.set_cons_succ, List.getElem?_cons_zero, List.getElem?_cons_succ, Option.some.injEq, exists_eq_left', V.int.injEq, V.bl.injEq, V.str.injEq, true_and, and_true, decide_eq_true_eq, List.cons.injEq, exists_eq_left, Bool.false_eq_true, if_false, if_true, ite_true, ite_false, Bool.not_eq_true', decide_eq_false_iff_not, Bool.not_not]
    refine ⟨D, rfl, hM, by omega, ?_⟩
    simp only [cxK, wipe, tYes, List.map_cons, List.map_nil, rIxL, rSum, tSl, rSlL, tNoPart, tPart, exists_and_left, and_assoc, V.ref.injEq, HO.lst.injEq, HO.tup.injEq, tFor_eq, iRng1, iRng2, iList, iTup, tLc_eq, tLst, tTup, gSub, rSetL, gT, gL, gTup, gCons, gNil, atI_0, atI_1, atI_2, atI_3, List.length_cons, List.length_nil, Nat.zero_add, Nat.reduceAdd, Nat.reduceLeDiff, ixN_30, ixN_31, ixN_32, Int.reduceLT, Int.reduceLE, Int.reduceNeg, upd_same, reduceCtorEq, false_and, exists_false, or_false, false_or, tSeq, tNext, tIfS, tRet, tRetN, tDrop, tAsg, gName, tPar, tPar3, tAug, ipI, tVar, tC, tOp, tUn, tCB, tD, tDK, tCons, tNil, rI, rI0, rU, tB, tTest, tAnd, tOr, tNot, tAndV, tOrV, tNotV, tIf, rEq, rNe, scal_ii, scal_bb, scal_ss, rGcd_eq, tBits, List.set_cons_zero, List.set_cons_succ, List.getElem?_cons_zero, List.getElem?_cons_succ, Option.some.injEq, exists_eq_left', V.int.injEq, V.bl.injEq, V.str.injEq, true_and, and_true, decide_eq_true_eq, List.cons.injEq, exists_eq_left, Bool.false_eq_true, if_false, if_true, ite_true, ite_false, Bool.not_eq_true', decide_eq_false_iff_not, Bool.not_not, tChain]
    have h5 := hM.1
    obtain ⟨s0, s1, s2⟩ := rt_spec (show 0 ≤ D by omega)
    obtain ⟨r0, r1⟩ := rt_le (show 0 ≤ D by omega)
    refine ⟨cmw (by omega) (by omega) (by omega) (by omega), ?_⟩
    rw [if_pos s1]
    refine ⟨cmw (by omega) (by omega) (by omega) (by omega), ?_⟩
    rw [decide_eq_true s2]
    exact kk

theorem okLawGreatRight {f : Addr} {fd : FuncData} (F : Fun K "_law_great_right" "_law_great_right" s_LawGreatRight f fd) (T : Txt K mg) {fMeasureOf : Addr} {fdMeasureOf : FuncData} (D_MeasureOf : DefAt P w K mg base 5 "measure_of" fMeasureOf fdMeasureOf ["cutting"] (spMeasureOf0)) {fRootTimes : Addr} {fdRootTimes : FuncData} (D_RootTimes : DefAt P w K mg base 5 "root_times" fRootTimes fdRootTimes ["measure", "one", "other"] (spTimes)) {fIsCutting : Addr} {fdIsCutting : FuncData} (D_IsCutting : DefAt P w K mg base 3 "is_cutting" fIsCutting fdIsCutting ["value"] (spIsCutting)) {fIsMeasure : Addr} {fdIsMeasure : FuncData} (D_IsMeasure : DefAt P w K mg base 2 "is_measure" fIsMeasure fdIsMeasure ["value"] (spIsMeasure)) {fWholeRoot : Addr} {fdWholeRoot : FuncData} (D_WholeRoot : DefAt P w K mg base 4 "whole_root" fWholeRoot fdWholeRoot ["measure"] (spWholeRoot0)) {fRootFloor : Addr} {fdRootFloor : FuncData} (D_RootFloor : DefAt P w K mg base 5 "root_floor" fRootFloor fdRootFloor ["measure", "root"] (spRootFloor)) {fRootSide : Addr} {fdRootSide : FuncData} (D_RootSide : DefAt P w K mg base 5 "root_side" fRootSide fdRootSide ["measure", "root"] (spRootSide)) : FnOk P w K mg base CX0 6 f fd [] (spGreat) := by
  refine F.ok scLawGreatRight (fun vs H Q E h => ?_) (fun cdv A outer s H vs Q E hr h => ?_)
  · obtain ⟨rfl, _⟩ := h
    rfl
  · obtain ⟨rfl, kk⟩ := h
    refine ⟨_, (pss_cons (ps_set (i := 0) scLawGreatRight.nd rfl (Or.inl rfl) (pe_tup (pa_cons pe_int (pa_cons (pe_op op_add (pe_op op_powX pe_int pe_int) pe_int) (pa_cons (pe_op op_powX pe_int pe_int) (pa_cons pe_int pa_nil))))))
        (pss_cons (ps_set (i := 1) scLawGreatRight.nd rfl (Or.inl rfl) (pe_d D_MeasureOf hr (pa_cons (pv 0) pa_nil)))
        (pss_cons (ps_if (PW.pt (pw_or (pt_cmpR op_notBl (pe_d D_IsCutting hr (pa_cons (pv 0) pa_nil)) pe_bl (nomark _)) (pw_or (pt_cmpR op_ne (pv 1) (pe_op op_add (pe_op op_mulU pe_int (pe_op op_powX pe_int pe_int)) (pe_op op_mulU pe_int (pe_op op_powX pe_int pe_int))) (nomark _)) (pw_or1 (pt_cmpR op_notBl (pe_d D_IsMeasure hr (pa_cons (pv 1) pa_nil)) pe_bl (nomark _)))))) (pss_one (ps_ret pe_bl)) pss_nil)
        (pss_cons (ps_if (PW.pt (pw_or (pt_cmpR op_ne (pe_d D_WholeRoot hr (pa_cons (pv 1) pa_nil)) (pe_op op_mulU pe_int (pe_op op_powX pe_int pe_int)) (nomark _)) (pw_or (pt_cmpR op_ne (pe_d D_RootFloor hr (pa_cons (pv 1) (pa_cons (pe_tup (pa_cons pe_int (pa_cons pe_int (pa_cons pe_int pa_nil)))) pa_nil))) (pe_op op_mulU pe_int (pe_op op_powX pe_int pe_int)) (nomark _)) (pw_or1 (pt_cmpR op_ne (pe_d D_RootSide hr (pa_cons (pv 1) (pa_cons (pe_tup (pa_cons (pe_op op_sub pe_int (pe_op op_mulU pe_int (pe_op op_powX pe_int pe_int))) (pa_cons pe_int (pa_cons pe_int pa_nil)))) pa_nil))) pe_int (nomark _)))))) (pss_one (ps_ret pe_bl)) pss_nil)
        (pss_one (ps_ret (pe_cmpR (op_eqD hr.units) (pe_d D_RootTimes hr (pa_cons (pv 1) (pa_cons (pe_tup (pa_cons pe_int (pa_cons pe_int (pa_cons pe_int pa_nil)))) (pa_cons (pe_tup (pa_cons pe_int (pa_cons pe_int (pa_cons pe_int pa_nil)))) pa_nil)))) (pe_tup (pa_cons (pv 1) (pa_cons pe_int (pa_cons pe_int pa_nil)))) (nomark _)))))))), ?_⟩
    have e0 : start N_LawGreatRight [] = [none, none] := rfl
    rw [e0]
    simp only [cxK, wipe, tYes, List.map_cons, List.map_nil, rIxL, rSum, tSl, rSlL, tNoPart, tPart, exists_and_left, and_assoc, V.ref.injEq, HO.lst.injEq, HO.tup.injEq, tFor_eq, iRng1, iRng2, iList, iTup, tLc_eq, tLst, tTup, gSub, rSetL, gT, gL, gTup, gCons, gNil, atI_0, atI_1, atI_2, atI_3, List.length_cons, List.length_nil, Nat.zero_add, Nat.reduceAdd, Nat.reduceLeDiff, ixN_30, ixN_31, ixN_32, Int.reduceLT, Int.reduceLE, Int.reduceNeg, upd_same, reduceCtorEq, false_and, exists_false, or_false, false_or, tSeq, tNext, tIfS, tRet, tRetN, tDrop, tAsg, gName, tPar, tPar3, tAug, ipI, tVar, tC, tOp, tUn, tCB, tD, tDK, tCons, tNil, rI, rI0, rU, tB, tTest, tAnd, tOr, tNot, tAndV, tOrV, tNotV, tIf, rEq, rNe, scal_ii, scal_bb, scal_ss, rGcd_eq, tBits, List.set_cons_zero, List.set_cons_succ, List.getElem?_cons_zero, List.getElem?_cons_succ, Option.some.injEq, exists_eq_left', V.int.injEq, V.bl.injEq, V.str.injEq, true_and, and_true, decide_eq_true_eq, List.cons.injEq, exists_eq_left, Bool.false_eq_true, if_false, if_true, ite_true, ite_false, Bool.not_eq_true', decide_eq_false_iff_not, Bool.not_not]
    have p10 : ∀ j : Int, 0 ≤ j → j ≤ 100 → PowOk 10 j := fun j h0 h1 => cpow h0 (by omega) (by decide) (by decide)
    have hP : (10 : Int) ^ Int.toNat 29 = 100000000000000000000000000000 := by decide +kernel
    have hP2 : (10 : Int) ^ Int.toNat 58 = 10000000000000000000000000000000000000000000000000000000000 := by decide +kernel
    simp only [hP, hP2]
    refine ⟨p10 _ (by decide) (by decide), p10 _ (by decide) (by decide), by decide, fun p np => ?_⟩
    have hc : CutAt (upd H p (.tup [V.int 0, V.int (100000000000000000000000000000 + 1), V.int 100000000000000000000000000000, V.int 0])) p (0, 100000000000000000000000000000 + 1, 100000000000000000000000000000, 0) := ⟨upd_same, by decide +kernel⟩
    refine ⟨p, _, rfl, hc, ⟨by decide +kernel, by decide +kernel, by decide +kernel, by decide +kernel⟩, fun H1 s1 => ?_⟩
    refine ⟨.ref p, rfl, cutAt_okV (hc.same s1).at', fun H2 s2 => ?_⟩
    rw [cutB_q (hc.same s1).at', hc.ok]
    refine ⟨true, true, rfl, rfl, ?_⟩
    refine ⟨_, rfl, ?_⟩
    rw [if_neg (by decide)]
    rw [show measC (0, 100000000000000000000000000000 + 1, 100000000000000000000000000000, 0) = 40000000000000000000000000000400000000000000000000000000000 by decide +kernel]
    refine ⟨p10 _ (by decide) (by decide), okm (n := 10) (m := 300) (by decide) (by decide) (by decide) (by decide), p10 _ (by decide) (by decide), okm (n := 10) (m := 300) (by decide) (by decide) (by decide) (by decide), by simp only [scal_ii], ?_⟩
    rw [if_neg (by decide)]
    have hM : Meas 40000000000000000000000000000400000000000000000000000000000 := ⟨by decide, by decide⟩
    have hR : rt 40000000000000000000000000000400000000000000000000000000000 = 200000000000000000000000000000 := (rt_unique (by decide) (by decide) (by decide +kernel) (by decide +kernel)).symm
    refine ⟨_, rfl, ⟨"int", rfl⟩, ?_⟩
    have hB : measB (V.int 40000000000000000000000000000400000000000000000000000000000) = true := by decide +kernel
    have hF : ((0 : Int) + flM 40000000000000000000000000000400000000000000000000000000000 1).fdiv 1 = 200000000000000000000000000000 := by
      rw [show flM 40000000000000000000000000000400000000000000000000000000000 1 = rt 40000000000000000000000000000400000000000000000000000000000 by unfold flM; rw [if_pos (by decide)]; rfl, hR]
      decide +kernel
    have hS : sideP 40000000000000000000000000000400000000000000000000000000000 (0 - 2 * 100000000000000000000000000000) 1 = 1 := by decide +kernel
    have hN : ¬ Sq 40000000000000000000000000000400000000000000000000000000000 := by
      unfold Sq
      rw [hR]
      decide +kernel
    have hT : timesT 40000000000000000000000000000400000000000000000000000000000 (0, 1, 1) (0, 1, 1) = (40000000000000000000000000000400000000000000000000000000000, 0, 1) := by
      have hN2 : ¬ (rt 40000000000000000000000000000400000000000000000000000000000 * rt 40000000000000000000000000000400000000000000000000000000000 = 40000000000000000000000000000400000000000000000000000000000) := hN
      unfold timesT least
      rw [if_neg hN2]
      decide +kernel
    have hlt : (40000000000000000000000000000400000000000000000000000000000 : Int) < 2 ^ 200 := by decide +kernel
    generalize (40000000000000000000000000000400000000000000000000000000000 : Int) = D at *
    have hg : ∀ x : Int, gcdI (gcdI x 1) 1 = 1 → Good D (x, 1, 1) := fun x hx => ⟨Int.le_refl 1, hx, .inr hN⟩
    have g0 : Good D (0, 1, 1) := hg 0 (by decide +kernel)
    refine ⟨true, true, by rw [hB], rfl, _, rfl, ?_⟩
    rw [if_neg (by decide)]
    have o2 : IntMulOk 2 100000000000000000000000000000 := okm (n := 10) (m := 300) (by decide) (by decide) (by decide) (by decide)
    refine ⟨D, rfl, hM, by omega, p10 _ (by decide) (by decide), o2, by simp only [scal_ii], ?_⟩
    rw [hR, if_neg (by decide)]
    refine ⟨by decide, fun a1 n1 => ⟨D, a1, (0, 1, 1), rfl, hM, by omega, ⟨upd_same, g0⟩, ⟨by decide, by decide, by decide⟩, fun H3 s3 => ?_⟩⟩
    rw [show (((0, 1, 1) : Int × Int × Int).1 + flM D ((0, 1, 1) : Int × Int × Int).2.1).fdiv ((0, 1, 1) : Int × Int × Int).2.2 = 200000000000000000000000000000 from hF]
    refine ⟨p10 _ (by decide) (by decide), o2, by simp only [scal_ii], ?_⟩
    rw [if_neg (by decide)]
    refine ⟨p10 _ (by decide) (by decide), o2, by decide, fun a2 n2 => ⟨D, a2, (0 - 2 * 100000000000000000000000000000, 1, 1), rfl, hM, by omega, ⟨upd_same, hg _ (by decide +kernel)⟩, ⟨by decide +kernel, by decide, by decide⟩, fun H4 s4 => ?_⟩⟩
    rw [show sideP D ((0 - 2 * 100000000000000000000000000000, 1, 1) : Int × Int × Int).1 ((0 - 2 * 100000000000000000000000000000, 1, 1) : Int × Int × Int).2.1 = 1 from hS]
    refine ⟨by simp only [scal_ii], ?_⟩
    rw [if_neg (by decide)]
    refine ⟨by decide, fun a3 n3 => ⟨by decide, fun a4 n4 => ⟨D, a3, a4, (0, 1, 1), (0, 1, 1), 10, 10, rfl, two_new (t := (0, 1, 1)) (u := (0, 1, 1)) hM hlt n3 n4 g0 g0 ⟨by decide, by decide, by decide⟩ ⟨by decide, by decide, by decide⟩, by decide, fun x5 H5 n5 s5 r5 => ⟨by decide, fun c6 n6 => ?_⟩⟩⟩⟩
    refine eq_roots (u := (D, 0, 1)) (r5.same (Same.upd n6)).1 upd_same hT ?_
    have k1 : Same H H2 := ((Same.upd np).trans s1).trans s2
    have k3 := k1.trans ((Same.upd n1).trans s3)
    have k4 := k3.trans ((Same.upd n2).trans s4)
    have k5 := k4.trans (((Same.upd n3).trans (Same.upd n4)).trans s5)
    exact kk _ (k5.trans (Same.upd n6))

def g_IsCutting_v {α : Type} : List α → List α
  | [k0] => [k0]
  | _ => []

def g_MeasureOf_c {α : Type} : List α → List α
  | [k0] => [k0]
  | _ => []

theorem okLawValueRight {f : Addr} {fd : FuncData} (F : Fun K "_law_value_right" "_law_value_right" s_LawValueRight f fd) (T : Txt K mg) {fLawIsCutting : Addr} {fdLawIsCutting : FuncData} (D_LawIsCutting : DefAt P w K mg base 2 "_law_is_cutting" fLawIsCutting fdLawIsCutting ["_law_a", "_law_b", "_law_c", "_law_e"] (spLawIsCutting)) {fIsCutting : Addr} {fdIsCutting : FuncData} (D_IsCutting : DefAt P w K mg base 3 "is_cutting" fIsCutting fdIsCutting ["value"] (spIsCutting)) {fIsMeasure : Addr} {fdIsMeasure : FuncData} (D_IsMeasure : DefAt P w K mg base 2 "is_measure" fIsMeasure fdIsMeasure ["value"] (spIsMeasure)) {fLawRootRight : Addr} {fdLawRootRight : FuncData} (D_LawRootRight : DefAt P w K mg base 5 "_law_root_right" fLawRootRight fdLawRootRight ["_law_measure_here"] (spRootRight)) {fMeasureOf : Addr} {fdMeasureOf : FuncData} (D_MeasureOf : DefAt P w K mg base 5 "measure_of" fMeasureOf fdMeasureOf ["cutting"] (spMeasureOf0)) {fLawMeasure : Addr} {fdLawMeasure : FuncData} (D_LawMeasure : DefAt P w K mg base 1 "_law_measure" fLawMeasure fdLawMeasure ["_law_cutting"] (spLawMeasure4)) (kb_IsCutting_v : KB0 K fdIsCutting ["value"] ["value"] g_IsCutting_v g_IsCutting_v) (kb_MeasureOf_c : KB0 K fdMeasureOf ["cutting"] ["cutting"] g_MeasureOf_c g_MeasureOf_c) : FnOk P w K mg base CX0 6 f fd ["_law_value"] (spFour 100) := by
  refine F.ok scLawValueRight (fun vs H Q E h => ?_) (fun cdv A outer s H vs Q E hr h => ?_)
  · obtain ⟨p, q, rfl, _⟩ := h
    rfl
  · obtain ⟨p, q, rfl, hp, hz, kk⟩ := h
    refine ⟨_, (pss_cons (ps_set (i := 1) scLawValueRight.nd rfl (Or.inl rfl) (pe_d D_LawIsCutting hr (pa_cons (pe_ix ixT (pv 0) pe_int (fun _ _ => rfl)) (pa_cons (pe_ix ixT (pv 0) pe_int (fun _ _ => rfl)) (pa_cons (pe_ix ixT (pv 0) pe_int (fun _ _ => rfl)) (pa_cons (pe_ix ixT (pv 0) pe_int (fun _ _ => rfl)) pa_nil))))))
        (pss_cons (ps_if (PW.pt (pw_or (pt_cmpR op_ne (pe_callB cr_repr (by rfl) T.repr (by decide +kernel) (pa_cons (pe_d D_IsCutting hr (pa_cons (pv 0) pa_nil)) pa_nil)) (pe_callB cr_repr (by rfl) T.repr (by decide +kernel) (pa_cons (pv 1) pa_nil)) (nomark _)) (pw_or1 (pt_cmpR op_ne (pe_callB cr_repr (by rfl) T.repr (by decide +kernel) (pa_cons (pe_dk D_IsCutting hr kb_IsCutting_v (pk_cons (pv 0) pk_nil)) pa_nil)) (pe_callB cr_repr (by rfl) T.repr (by decide +kernel) (pa_cons (pv 1) pa_nil)) (nomark _))))) (pss_one (ps_ret pe_bl)) pss_nil)
        (pss_cons (ps_if (PW.pt (pw_and (pt_val (pv 1)) (pw_and1 (PW.pt (pw_or (pt_cmpR op_notBl (pe_d D_IsMeasure hr (pa_cons (pe_d D_LawMeasure hr (pa_cons (pv 0) pa_nil)) pa_nil)) pe_bl (nomark _)) (pw_or1 (pt_not (pt_val (pe_d D_LawRootRight hr (pa_cons (pe_d D_LawMeasure hr (pa_cons (pv 0) pa_nil)) pa_nil)))))))))) (pss_one (ps_ret pe_bl)) pss_nil)
        (pss_one (ps_ret (pe_or (pe_not (pv 1)) (pe_one (pe_and (pe_cmpR op_eq (pe_callB cr_repr (by rfl) T.repr (by decide +kernel) (pa_cons (pe_d D_MeasureOf hr (pa_cons (pv 0) pa_nil)) pa_nil)) (pe_callB cr_repr (by rfl) T.repr (by decide +kernel) (pa_cons (pe_d D_LawMeasure hr (pa_cons (pv 0) pa_nil)) pa_nil)) (nomark _)) (pe_one (pe_cmpR op_eq (pe_dk D_MeasureOf hr kb_MeasureOf_c (pk_cons (pv 0) pk_nil)) (pe_d D_LawMeasure hr (pa_cons (pv 0) pa_nil)) (nomark _))))))))))), ?_⟩
    have e0 : start N_LawValueRight [.ref p] = [some (.ref p), none] := rfl
    rw [e0]
    have e1 : H p = some (.tup [.int q.1, .int q.2.1, .int q.2.2.1, .int q.2.2.2]) := hp
    simp only [cxK, wipe, tYes, List.map_cons, List.map_nil, rIxL, rSum, tSl, rSlL, tNoPart, tPart, exists_and_left, and_assoc, V.ref.injEq, HO.lst.injEq, HO.tup.injEq, tFor_eq, iRng1, iRng2, iList, iTup, tLc_eq, tLst, tTup, gSub, rSetL, gT, gL, gTup, gCons, gNil, atI_0, atI_1, atI_2, atI_3, List.length_cons, List.length_nil, Nat.zero_add, Nat.reduceAdd, Nat.reduceLeDiff, ixN_30, ixN_31, ixN_32, Int.reduceLT, Int.reduceLE, Int.reduceNeg, upd_same, reduceCtorEq, false_and, exists_false, or_false, false_or, tSeq, tNext, tIfS, tRet, tRetN, tDrop, tAsg, gName, tPar, tPar3, tAug, ipI, tVar, tC, tOp, tUn, tCB, tD, tDK, tCons, tNil, rI, rI0, rU, tB, tTest, tAnd, tOr, tNot, tAndV, tOrV, tNotV, tIf, rEq, rNe, scal_ii, scal_bb, scal_ss, rGcd_eq, tBits, List.set_cons_zero, List.set_cons_succ, List.getElem?_cons_zero, List.getElem?_cons_succ, Option.some.injEq, exists_eq_left', V.int.injEq, V.bl.injEq, V.str.injEq, true_and, and_true, decide_eq_true_eq, List.cons.injEq, exists_eq_left, Bool.false_eq_true, if_false, if_true, ite_true, ite_false, Bool.not_eq_true', decide_eq_false_iff_not, Bool.not_not, e1]
    refine ⟨_, _, _, _, rfl, .ref p, rfl, cutAt_okV hp, fun H1 s1 => ?_⟩
    rw [cutB_q hp]
    rw [show CutOk q.1 q.2.1 q.2.2.1 q.2.2.2 = okQ q from rfl]
    refine ⟨_, rfl, _, rfl, ?_⟩
    rw [if_neg (fun h => h rfl)]
    have hp1 := s1 _ _ hp
    refine ⟨.ref p, rfl, cutAt_okV hp1, fun H2 s2 => ?_⟩
    rw [cutB_q hp1]
    refine ⟨_, rfl, _, rfl, ?_⟩
    rw [if_neg (fun h => h rfl)]
    refine ⟨_, rfl, ?_⟩
    obtain ⟨z1, z2, z3, z4⟩ := hz
    have z : Sz4 1000 q := ⟨up z1 (by decide), up z2 (by decide), up z3 (by decide), up z4 (by decide)⟩
    have hm := meas_sz (n := 100) ⟨z1, z2, z3, z4⟩
    simp only [Nat.reduceMul, Nat.reduceAdd] at hm
    cases hq : okQ q with
    | false =>
      rw [if_neg (by decide)]
      exact ⟨false, rfl, by rw [if_pos rfl]; exact kk _ (s1.trans s2)⟩
    | true =>
      rw [if_pos rfl]
      have hc2 : CutAt H2 p q := ⟨s2 _ _ hp1, hq⟩
      have hM := meas_cut hq
      have hB : measB (.int (measC q)) = true := by rw [measB_int, decide_eq_true hM.1, decide_eq_true hM.2]; rfl
      refine ⟨p, q, rfl, hc2.at', z, ?_⟩
      refine ⟨_, rfl, ⟨"int", rfl⟩, ?_⟩
      refine ⟨true, true, by rw [hB], rfl, _, rfl, ?_⟩
      rw [if_neg (by decide)]
      refine ⟨p, q, rfl, hc2.at', z, measC q, rfl, hM, by omega, true, rfl, ?_⟩
      rw [if_neg (by decide)]
      refine ⟨true, rfl, ?_⟩
      rw [if_neg (by decide)]
      refine ⟨p, q, rfl, hc2, z, fun H3 s3 => ⟨_, flat_int (up hm (by decide)), p, q, rfl, (hc2.same s3).at', z, _, flat_int (up hm (by decide)), ?_⟩⟩
      rw [if_pos rfl]
      refine ⟨p, q, rfl, hc2.same s3, z, fun H4 s4 => ⟨p, q, rfl, ((hc2.same s3).same s4).at', z, by simp only [scal_ii], ?_⟩⟩
      rw [decide_eq_true rfl]
      exact kk _ (((s1.trans s2).trans s3).trans s4)

def InvN1 (p : Addr) (H : Hp) : Nat → SV → Hp → Prop := fun _ σ H2 => ∃ t1 t2 t3 t4 : Option V, σ = [some (.ref p), t1, t2, t3, t4] ∧ Same H H2
def InvN2 (p : Addr) (i : Nat) (H : Hp) : Nat → SV → Hp → Prop := fun _ σ H2 => ∃ t2 t3 t4 : Option V, σ = [some (.ref p), some (.int (0 + (i : Int))), t2, t3, t4] ∧ Same H H2
def InvE07 (h : Hp) (Dd : Addr) : Nat → Hp → Prop := fun _ H2 => Same h H2 ∧ H2 Dd = some (.lst [])

theorem okLawNearRight {f : Addr} {fd : FuncData} (F : Fun K "_law_near_right" "_law_near_right" s_LawNearRight f fd) (T : Txt K mg) {fLawValueRight : Addr} {fdLawValueRight : FuncData} (D_LawValueRight : DefAt P w K mg base 6 "_law_value_right" fLawValueRight fdLawValueRight ["_law_value"] (spFour 100)) {fIsCutting : Addr} {fdIsCutting : FuncData} (D_IsCutting : DefAt P w K mg base 3 "is_cutting" fIsCutting fdIsCutting ["value"] (spIsCutting)) : FnOk P w K mg base CX0 7 f fd ["_law_value"] (spFour 90) := by
  refine F.ok scLawNearRight (fun vs H Q E h => ?_) (fun cdv A outer s H vs Q E hr h => ?_)
  · obtain ⟨p, q, rfl, _⟩ := h
    rfl
  · obtain ⟨p, q, rfl, hp, hz, kk⟩ := h
    refine ⟨_, (pss_cons (ps_for PassesOwn.never rfl (pi_range1 rfl T.range (pa_cons pe_int pa_nil)) (pg_name (i := 1) scLawNearRight.nd rfl (Or.inl rfl)) (pss_cons (ps_for PassesOwn.never rfl (pi_list (pe_lst (pa_cons (pe_op op_sub (pe_ix ixT (pv 0) (pv 1) (fun _ _ => rfl)) pe_int) (pa_cons (pe_op op_add (pe_ix ixT (pv 0) (pv 1) (fun _ _ => rfl)) pe_int) (pa_cons (pe_op op_sub pe_int (pe_ix ixT (pv 0) (pv 1) (fun _ _ => rfl))) (pa_cons pe_int (pa_cons pe_int pa_nil))))))) (pg_name (i := 2) scLawNearRight.nd rfl (Or.inl rfl)) (pss_one (ps_if (pt_not (pt_val (pe_d D_LawValueRight hr (pa_cons (pe_op op_catA (pe_op op_catA (pe_slice sl_tupA (pv 0) po_none (po_some (pv 1))) (pe_tup (pa_cons (pv 2) pa_nil))) (pe_slice sl_tupA (pv 0) (po_some (pe_op op_add (pv 1) pe_int)) po_none)) pa_nil)))) (pss_one (ps_ret pe_bl)) pss_nil)))
        (pss_one (ps_for PassesOwn.never rfl (pi_list (pe_lst (pa_cons pe_non (pa_cons pe_bl (pa_cons pe_str (pa_cons (pe_lst (pa_cons pe_int pa_nil)) (pa_cons (pe_tup (pa_cons pe_int pa_nil)) pa_nil))))))) (pg_name (i := 3) scLawNearRight.nd rfl (Or.inl rfl)) (pss_one (ps_if (pt_cmpR op_notBl (pe_d D_IsCutting hr (pa_cons (pe_op op_catA (pe_op op_catA (pe_slice sl_tupA (pv 0) po_none (po_some (pv 1))) (pe_tup (pa_cons (pv 3) pa_nil))) (pe_slice sl_tupA (pv 0) (po_some (pe_op op_add (pv 1) pe_int)) po_none)) pa_nil)) pe_bl (nomark _)) (pss_one (ps_ret pe_bl)) pss_nil))))))
        (pss_cons (ps_if (PW.pt (pw_or (pt_not (pt_val (pe_d D_LawValueRight hr (pa_cons (pe_tup (pa_cons (pe_ix ixT (pv 0) pe_int (fun _ _ => rfl)) (pa_cons (pe_op op_sub pe_int (pe_ix ixT (pv 0) pe_int (fun _ _ => rfl))) (pa_cons (pe_op op_sub pe_int (pe_ix ixT (pv 0) pe_int (fun _ _ => rfl))) (pa_cons (pe_ix ixT (pv 0) pe_int (fun _ _ => rfl)) pa_nil))))) pa_nil)))) (pw_or1 (pt_not (pt_val (pe_d D_LawValueRight hr (pa_cons (pe_tup (pa_cons pe_int (pa_cons (pe_op op_sub pe_int (pe_ix ixT (pv 0) pe_int (fun _ _ => rfl))) (pa_cons (pe_op op_sub pe_int (pe_ix ixT (pv 0) pe_int (fun _ _ => rfl))) (pa_cons (pe_ix ixT (pv 0) pe_int (fun _ _ => rfl)) pa_nil))))) pa_nil))))))) (pss_one (ps_ret pe_bl)) pss_nil)
        (pss_cons (ps_set (i := 4) scLawNearRight.nd rfl (Or.inl rfl) (pe_callTy call_list_of (by rfl) T.list (by decide +kernel) (pa_cons (pv 0) pa_nil)))
        (pss_cons (ps_if (PW.pt (pw_or (pt_cmpR op_notBl (pe_d D_IsCutting hr (pa_cons (pv 4) pa_nil)) pe_bl (nomark _)) (pw_or1 (pt_cmpR (op_neD hr.units) (pv 4) (pe_callTy call_list_of (by rfl) T.list (by decide +kernel) (pa_cons (pv 0) pa_nil)) (nomark _))))) (pss_one (ps_ret pe_bl)) pss_nil)
        (pss_one (ps_ret (pe_cmpR (op_eqD hr.units) (pe_lc (own := [("_law_odd", 3)]) (g := gName 3) rfl scLawNearRight.nd (pi_list (pe_lst (pa_cons (pe_callTy call_list_of (by rfl) T.list (by decide +kernel) (pa_cons (pv 0) pa_nil)) (pa_cons (pe_slice sl_tupA (pv 0) po_none (po_some pe_int)) (pa_cons (pe_op op_catA (pv 0) (pe_tup (pa_cons pe_int pa_nil))) (pa_cons (pe_tup (pa_cons (pv 0) pa_nil)) (pa_cons pe_non (pa_cons pe_int (pa_cons pe_str (pa_cons (pe_tup pa_nil) pa_nil)))))))))) (blkOk_by (N := N_LawNearRight) (sc := defScope s_LawNearRight) (by decide +kernel)) (fun _ _ _ _ _ => pg_name (i := 3) scLawNearRight.nd rfl (Or.inl rfl)) (fun _ _ _ _ _ => (pts_one (pt_cmpR op_notBl (pe_d D_IsCutting hr (pa_cons (pv 3) pa_nil)) pe_bl (nomark _)))) (fun _ _ _ _ _ => (pv 3))) (pe_lst pa_nil) (nomark _)))))))), ?_⟩
    have e0 : start N_LawNearRight [.ref p] = [some (.ref p), none, none, none, none] := rfl
    rw [e0]
    simp only [cxK, wipe, tYes, List.map_cons, List.map_nil, rIxL, rSum, tSl, rSlL, tNoPart, tPart, exists_and_left, and_assoc, V.ref.injEq, HO.lst.injEq, HO.tup.injEq, tFor_eq, iRng1, iRng2, iList, iTup, tLc_eq, tLst, tTup, gSub, rSetL, gT, gL, gTup, gCons, gNil, atI_0, atI_1, atI_2, atI_3, List.length_cons, List.length_nil, Nat.zero_add, Nat.reduceAdd, Nat.reduceLeDiff, ixN_30, ixN_31, ixN_32, Int.reduceLT, Int.reduceLE, Int.reduceNeg, upd_same, reduceCtorEq, false_and, exists_false, or_false, false_or, tNext, tIfS, tRet, tRetN, tDrop, tAsg, gName, tPar, tPar3, tAug, ipI, tVar, tC, tOp, tUn, tCB, tD, tDK, tCons, tNil, rI, rI0, rU, tB, tTest, tAnd, tOr, tNot, tAndV, tOrV, tNotV, tIf, rEq, rNe, scal_ii, scal_bb, scal_ss, rGcd_eq, tBits, List.set_cons_zero, List.set_cons_succ, List.getElem?_cons_zero, List.getElem?_cons_succ, Option.some.injEq, exists_eq_left', V.int.injEq, V.bl.injEq, V.str.injEq, true_and, and_true, decide_eq_true_eq, List.cons.injEq, exists_eq_left, Bool.false_eq_true, if_false, if_true, ite_true, ite_false, Bool.not_eq_true', decide_eq_false_iff_not, Bool.not_not]
    refine seq_gen fun C1 hC1 => ?_
    simp only [cxK, wipe, tYes, List.map_cons, List.map_nil, rIxL, rSum, tSl, rSlL, tNoPart, tPart, exists_and_left, and_assoc, V.ref.injEq, HO.lst.injEq, HO.tup.injEq, tFor_eq, iRng1, iRng2, iList, iTup, tLc_eq, tLst, tTup, gSub, rSetL, gT, gL, gTup, gCons, gNil, atI_0, atI_1, atI_2, atI_3, List.length_cons, List.length_nil, Nat.zero_add, Nat.reduceAdd, Nat.reduceLeDiff, ixN_30, ixN_31, ixN_32, Int.reduceLT, Int.reduceLE, Int.reduceNeg, upd_same, reduceCtorEq, false_and, exists_false, or_false, false_or, tNext, tIfS, tRet, tRetN, tDrop, tAsg, gName, tPar, tPar3, tAug, ipI, tVar, tC, tOp, tUn, tCB, tD, tDK, tCons, tNil, rI, rI0, rU, tB, tTest, tAnd, tOr, tNot, tAndV, tOrV, tNotV, tIf, rEq, rNe, scal_ii, scal_bb, scal_ss, rGcd_eq, tBits, List.set_cons_zero, List.set_cons_succ, List.getElem?_cons_zero, List.getElem?_cons_succ, Option.some.injEq, exists_eq_left', V.int.injEq, V.bl.injEq, V.str.injEq, true_and, and_true, decide_eq_true_eq, List.cons.injEq, exists_eq_left, Bool.false_eq_true, if_false, if_true, ite_true, ite_false, Bool.not_eq_true', decide_eq_false_iff_not, Bool.not_not]
    refine ⟨by decide, by decide, ?_⟩
    refine forW_range (InvN1 p H) ⟨none, none, none, none, rfl, Same.refl _⟩ ?_ (fun σ' H2 z => ?_)
    · rintro i σ' H2 hi ⟨t1, t2, t3, t4, rfl, s2⟩
      have hi4 : i < 4 := hi
      have e2 : H2 p = some (.tup (cutV4 q)) := s2 _ _ hp
      obtain ⟨y, hy, hyz⟩ : ∃ y : Int, atI (cutV4 q) (0 + (i : Int)) = some (.int y) ∧ y.natAbs < 2 ^ 90 := by
        obtain ⟨z1, z2, z3, z4⟩ := hz
        rcases (show i = 0 ∨ i = 1 ∨ i = 2 ∨ i = 3 by omega) with rfl | rfl | rfl | rfl
        · exact ⟨_, atI_0, z1⟩
        · exact ⟨_, atI_1, z2⟩
        · exact ⟨_, atI_2, z3⟩
        · exact ⟨_, atI_3, z4⟩
      simp only [cxK, wipe, tYes, List.map_cons, List.map_nil, rIxL, rSum, tSl, rSlL, tNoPart, tPart, exists_and_left, and_assoc, V.ref.injEq, HO.lst.injEq, HO.tup.injEq, tFor_eq, iRng1, iRng2, iList, iTup, tLc_eq, tLst, tTup, gSub, rSetL, gT, gL, gTup, gCons, gNil, atI_0, atI_1, atI_2, atI_3, List.length_cons, List.length_nil, Nat.zero_add, Nat.reduceAdd, Nat.reduceLeDiff, ixN_30, ixN_31, ixN_32, Int.reduceLT, Int.reduceLE, Int.reduceNeg, upd_same, reduceCtorEq, false_and, exists_false, or_false, false_or, tNext, tIfS, tRet, tRetN, tDrop, tAsg, gName, tPar, tPar3, tAug, ipI, tVar, tC, tOp, tUn, tCB, tD, tDK, tCons, tNil, rI, rI0, rU, tB, tTest, tAnd, tOr, tNot, tAndV, tOrV, tNotV, tIf, rEq, rNe, scal_ii, scal_bb, scal_ss, rGcd_eq, tBits, List.set_cons_zero, List.set_cons_succ, List.getElem?_cons_zero, List.getElem?_cons_succ, Option.some.injEq, exists_eq_left', V.int.injEq, V.bl.injEq, V.str.injEq, true_and, and_true, decide_eq_true_eq, List.cons.injEq, exists_eq_left, Bool.false_eq_true, if_false, if_true, ite_true, ite_false, Bool.not_eq_true', decide_eq_false_iff_not, Bool.not_not]
      refine seq_gen fun C2 hC2 => ?_
      simp only [cxK, wipe, tYes, List.map_cons, List.map_nil, rIxL, rSum, tSl, rSlL, tNoPart, tPart, exists_and_left, and_assoc, V.ref.injEq, HO.lst.injEq, HO.tup.injEq, tFor_eq, iRng1, iRng2, iList, iTup, tLc_eq, tLst, tTup, gSub, rSetL, gT, gL, gTup, gCons, gNil, atI_0, atI_1, atI_2, atI_3, List.length_cons, List.length_nil, Nat.zero_add, Nat.reduceAdd, Nat.reduceLeDiff, ixN_30, ixN_31, ixN_32, Int.reduceLT, Int.reduceLE, Int.reduceNeg, upd_same, reduceCtorEq, false_and, exists_false, or_false, false_or, tNext, tIfS, tRet, tRetN, tDrop, tAsg, gName, tPar, tPar3, tAug, ipI, tVar, tC, tOp, tUn, tCB, tD, tDK, tCons, tNil, rI, rI0, rU, tB, tTest, tAnd, tOr, tNot, tAndV, tOrV, tNotV, tIf, rEq, rNe, scal_ii, scal_bb, scal_ss, rGcd_eq, tBits, List.set_cons_zero, List.set_cons_succ, List.getElem?_cons_zero, List.getElem?_cons_succ, Option.some.injEq, exists_eq_left', V.int.injEq, V.bl.injEq, V.str.injEq, true_and, and_true, decide_eq_true_eq, List.cons.injEq, exists_eq_left, Bool.false_eq_true, if_false, if_true, ite_true, ite_false, Bool.not_eq_true', decide_eq_false_iff_not, Bool.not_not, e2]
      refine ⟨_, hy, y, rfl, _, hy, y, rfl, _, hy, y, rfl, by decide, fun L nL => ⟨⟨_, SqL.of upd_same⟩, ?_⟩⟩
      have sL : Same H2 (upd H2 L (.lst [V.int (y - 1), V.int (y + 1), V.int (0 - y), V.int 0, V.int 1])) := Same.upd nL
      have eL : (upd H2 L (.lst [V.int (y - 1), V.int (y + 1), V.int (0 - y), V.int 0, V.int 1])) L = some (.lst [V.int (y - 1), V.int (y + 1), V.int (0 - y), V.int 0, V.int 1]) := upd_same
      generalize upd H2 L (.lst [V.int (y - 1), V.int (y + 1), V.int (0 - y), V.int 0, V.int 1]) = hL at *
      refine forW_list (xs := [V.int (y - 1), V.int (y + 1), V.int (0 - y), V.int 0, V.int 1]) (InvN2 p i hL) ⟨t2, t3, t4, rfl, Same.refl _⟩ (fun j σ3 H3 _ z => ?_) ?_ (fun σ3 H3 z => ?_)
      · obtain ⟨_, _, _, _, s3⟩ := z
        exact SqL.of (s3 _ _ eL)
      · rintro j v σ3 H3 hv ⟨u2, u3, u4, rfl, s3⟩
        obtain ⟨n, rfl, hn⟩ : ∃ n : Int, v = .int n ∧ n.natAbs < 2 ^ 100 := by
          have hm := List.mem_of_getElem? hv
          simp only [List.mem_cons, List.not_mem_nil, or_false] at hm
          rcases hm with rfl | rfl | rfl | rfl | rfl
          · exact ⟨_, rfl, by omega⟩
          · exact ⟨_, rfl, by omega⟩
          · exact ⟨_, rfl, by omega⟩
          · exact ⟨_, rfl, by decide⟩
          · exact ⟨_, rfl, by decide⟩
        simp only [cxK, wipe, tYes, List.map_cons, List.map_nil, rIxL, rSum, tSl, rSlL, tNoPart, tPart, exists_and_left, and_assoc, V.ref.injEq, HO.lst.injEq, HO.tup.injEq, tFor_eq, iRng1, iRng2, iList, iTup, tLc_eq, tLst, tTup, gSub, rSetL, gT, gL, gTup, gCons, gNil, atI_0, atI_1, atI_2, atI_3, List.length_cons, List.length_nil, Nat.zero_add, Nat.reduceAdd, Nat.reduceLeDiff, ixN_30, ixN_31, ixN_32, Int.reduceLT, Int.reduceLE, Int.reduceNeg, upd_same, reduceCtorEq, false_and, exists_false, or_false, false_or, tNext, tIfS, tRet, tRetN, tDrop, tAsg, gName, tPar, tPar3, tAug, ipI, tVar, tC, tOp, tUn, tCB, tD, tDK, tCons, tNil, rI, rI0, rU, tB, tTest, tAnd, tOr, tNot, tAndV, tOrV, tNotV, tIf, rEq, rNe, scal_ii, scal_bb, scal_ss, rGcd_eq, tBits, List.set_cons_zero, List.set_cons_succ, List.getElem?_cons_zero, List.getElem?_cons_succ, Option.some.injEq, exists_eq_left', V.int.injEq, V.bl.injEq, V.str.injEq, true_and, and_true, decide_eq_true_eq, List.cons.injEq, exists_eq_left, Bool.false_eq_true, if_false, if_true, ite_true, ite_false, Bool.not_eq_true', decide_eq_false_iff_not, Bool.not_not]
        refine bend (s3 _ _ (sL _ _ e2)) hi4 (fun r H4 s4 e4 => ?_)
        rw [setQ_int hi4] at e4
        refine ⟨r, setZ q i n, rfl, e4, setZ_sz (hz.up (by decide)) hn, fun H5 s5 => ⟨true, rfl, ?_⟩⟩
        rw [if_neg (by decide)]
        exact ⟨_, _, _, rfl, (s3.trans s4).trans s5⟩
      · obtain ⟨u2, u3, u4, rfl, s3⟩ := z
        have s23 := (s2.trans sL).trans s3
        refine Eq.mpr (hC2 _ _) ?_
        refine ⟨by decide, fun p1 n1 => ⟨by decide, fun p2 n2 => ⟨by decide, fun p3 n3 => ⟨⟨_, SqL.of upd_same⟩, ?_⟩⟩⟩⟩
        have f3 : upd (upd (upd H3 p1 (.lst [V.int 1])) p2 (.tup [V.int 1])) p3 (.lst [V.non, V.bl true, V.str (Str.ofString "1"), V.ref p1, V.ref p2]) p3 = some (.lst [V.non, V.bl true, V.str (Str.ofString "1"), V.ref p1, V.ref p2]) := upd_same
        have f2 : upd (upd (upd H3 p1 (.lst [V.int 1])) p2 (.tup [V.int 1])) p3 (.lst [V.non, V.bl true, V.str (Str.ofString "1"), V.ref p1, V.ref p2]) p2 = some (.tup [V.int 1]) := (Same.upd n3) _ _ upd_same
        have f1 : upd (upd (upd H3 p1 (.lst [V.int 1])) p2 (.tup [V.int 1])) p3 (.lst [V.non, V.bl true, V.str (Str.ofString "1"), V.ref p1, V.ref p2]) p1 = some (.lst [V.int 1]) := (Same.upd n3) _ _ ((Same.upd n2) _ _ upd_same)
        have t3 : Same H3 (upd (upd (upd H3 p1 (.lst [V.int 1])) p2 (.tup [V.int 1])) p3 (.lst [V.non, V.bl true, V.str (Str.ofString "1"), V.ref p1, V.ref p2])) := ((Same.upd n1).trans (Same.upd n2)).trans (Same.upd n3)
        generalize upd (upd (upd H3 p1 (.lst [V.int 1])) p2 (.tup [V.int 1])) p3 (.lst [V.non, V.bl true, V.str (Str.ofString "1"), V.ref p1, V.ref p2]) = hV at *
        have items : ∀ v ∈ [V.non, V.bl true, V.str (Str.ofString "1"), V.ref p1, V.ref p2], OkItem hV v ∧ isIntV v = false := by
          intro v hv
          simp only [List.mem_cons, List.not_mem_nil, or_false] at hv
          rcases hv with rfl | rfl | rfl | rfl | rfl
          · exact ⟨⟨"NoneType", rfl⟩, rfl⟩
          · exact ⟨⟨"bool", rfl⟩, rfl⟩
          · exact ⟨⟨"str", rfl⟩, rfl⟩
          · exact ⟨⟨"list", tyS_lst f1⟩, rfl⟩
          · exact ⟨⟨"tuple", tyS_tup f2⟩, rfl⟩
        refine forW_list (xs := [V.non, V.bl true, V.str (Str.ofString "1"), V.ref p1, V.ref p2]) (InvN2 p i hV) ⟨u2, u3, u4, rfl, Same.refl _⟩ (fun j σ4 H4 _ z => ?_) ?_ (fun σ4 H4 z => ?_)
        · obtain ⟨_, _, _, _, s4⟩ := z
          exact SqL.of (s4 _ _ f3)
        · rintro j v σ4 H4 hv ⟨v2, v3, v4, rfl, s4⟩
          obtain ⟨ok, hi2⟩ := items v (List.mem_of_getElem? hv)
          simp only [cxK, wipe, tYes, List.map_cons, List.map_nil, rIxL, rSum, tSl, rSlL, tNoPart, tPart, exists_and_left, and_assoc, V.ref.injEq, HO.lst.injEq, HO.tup.injEq, tFor_eq, iRng1, iRng2, iList, iTup, tLc_eq, tLst, tTup, gSub, rSetL, gT, gL, gTup, gCons, gNil, atI_0, atI_1, atI_2, atI_3, List.length_cons, List.length_nil, Nat.zero_add, Nat.reduceAdd, Nat.reduceLeDiff, ixN_30, ixN_31, ixN_32, Int.reduceLT, Int.reduceLE, Int.reduceNeg, upd_same, reduceCtorEq, false_and, exists_false, or_false, false_or, tNext, tIfS, tRet, tRetN, tDrop, tAsg, gName, tPar, tPar3, tAug, ipI, tVar, tC, tOp, tUn, tCB, tD, tDK, tCons, tNil, rI, rI0, rU, tB, tTest, tAnd, tOr, tNot, tAndV, tOrV, tNotV, tIf, rEq, rNe, scal_ii, scal_bb, scal_ss, rGcd_eq, tBits, List.set_cons_zero, List.set_cons_succ, List.getElem?_cons_zero, List.getElem?_cons_succ, Option.some.injEq, exists_eq_left', V.int.injEq, V.bl.injEq, V.str.injEq, true_and, and_true, decide_eq_true_eq, List.cons.injEq, exists_eq_left, Bool.false_eq_true, if_false, if_true, ite_true, ite_false, Bool.not_eq_true', decide_eq_false_iff_not, Bool.not_not]
          refine bend (s4 _ _ (t3 _ _ (s3 _ _ (sL _ _ e2)))) hi4 (fun r H5 s5 e5 => ?_)
          refine ⟨_, rfl, setQ_ok hi4 e5 (ok.same (s4.trans s5)), fun H6 s6 => ?_⟩
          rw [setQ_odd hi4 e5 hi2]
          refine ⟨false, false, rfl, rfl, ?_⟩
          refine ⟨_, rfl, ?_⟩
          rw [if_neg (by decide)]
          exact ⟨_, _, _, rfl, (s4.trans s5).trans s6⟩
        · obtain ⟨v2, v3, v4, rfl, s4⟩ := z
          exact ⟨_, _, _, _, rfl, (s23.trans t3).trans s4⟩
    · obtain ⟨t1, t2, t3, t4, rfl, s2⟩ := z
      refine Eq.mpr (hC1 _ _) ?_
      refine seq_gen fun C3 hC3 => ?_
      have e2 : H2 p = some (.tup [.int q.1, .int q.2.1, .int q.2.2.1, .int q.2.2.2]) := s2 _ _ hp
      simp only [cxK, wipe, tYes, List.map_cons, List.map_nil, rIxL, rSum, tSl, rSlL, tNoPart, tPart, exists_and_left, and_assoc, V.ref.injEq, HO.lst.injEq, HO.tup.injEq, tFor_eq, iRng1, iRng2, iList, iTup, tLc_eq, tLst, tTup, gSub, rSetL, gT, gL, gTup, gCons, gNil, atI_0, atI_1, atI_2, atI_3, List.length_cons, List.length_nil, Nat.zero_add, Nat.reduceAdd, Nat.reduceLeDiff, ixN_30, ixN_31, ixN_32, Int.reduceLT, Int.reduceLE, Int.reduceNeg, upd_same, reduceCtorEq, false_and, exists_false, or_false, false_or, tNext, tIfS, tRet, tRetN, tDrop, tAsg, gName, tPar, tPar3, tAug, ipI, tVar, tC, tOp, tUn, tCB, tD, tDK, tCons, tNil, rI, rI0, rU, tB, tTest, tAnd, tOr, tNot, tAndV, tOrV, tNotV, tIf, rEq, rNe, scal_ii, scal_bb, scal_ss, rGcd_eq, tBits, List.set_cons_zero, List.set_cons_succ, List.getElem?_cons_zero, List.getElem?_cons_succ, Option.some.injEq, exists_eq_left', V.int.injEq, V.bl.injEq, V.str.injEq, true_and, and_true, decide_eq_true_eq, List.cons.injEq, exists_eq_left, Bool.false_eq_true, if_false, if_true, ite_true, ite_false, Bool.not_eq_true', decide_eq_false_iff_not, Bool.not_not, e2]
      obtain ⟨z1, z2, z3, z4⟩ := hz.up (show 90 ≤ 100 by decide)
      refine ⟨by decide, fun p1 n1 => ⟨p1, (q.1, 0 - q.2.2.1, 0 - q.2.1, q.2.2.2), rfl, upd_same, ⟨z1, show (0 - q.2.2.1).natAbs < 2 ^ 100 by omega, show (0 - q.2.1).natAbs < 2 ^ 100 by omega, z4⟩, fun H3 s3 => ⟨true, rfl, ?_⟩⟩⟩
      rw [if_neg (by decide)]
      have e3 := s3 _ _ ((Same.upd n1) _ _ e2)
      refine ⟨_, e3, _, atI_2, _, rfl, _, e3, _, atI_1, _, rfl, _, e3, _, atI_3, by decide, fun p2 n2 => ⟨p2, (0, 0 - q.2.2.1, 0 - q.2.1, q.2.2.2), rfl, upd_same, ⟨show (0 : Int).natAbs < 2 ^ 100 by decide, show (0 - q.2.2.1).natAbs < 2 ^ 100 by omega, show (0 - q.2.1).natAbs < 2 ^ 100 by omega, z4⟩, fun H4 s4 => ⟨true, rfl, ?_⟩⟩⟩
      rw [if_neg (by decide)]
      have e4 := s4 _ _ ((Same.upd n2) _ _ e3)
      have k4 : Same H H4 := s2.trans (((Same.upd n1).trans s3).trans ((Same.upd n2).trans s4))
      refine Eq.mpr (hC3 _ _) ?_
      refine seq_gen fun C4 hC4 => ?_
      simp only [cxK, wipe, tYes, List.map_cons, List.map_nil, rIxL, rSum, tSl, rSlL, tNoPart, tPart, exists_and_left, and_assoc, V.ref.injEq, HO.lst.injEq, HO.tup.injEq, tFor_eq, iRng1, iRng2, iList, iTup, tLc_eq, tLst, tTup, gSub, rSetL, gT, gL, gTup, gCons, gNil, atI_0, atI_1, atI_2, atI_3, List.length_cons, List.length_nil, Nat.zero_add, Nat.reduceAdd, Nat.reduceLeDiff, ixN_30, ixN_31, ixN_32, Int.reduceLT, Int.reduceLE, Int.reduceNeg, upd_same, reduceCtorEq, false_and, exists_false, or_false, false_or, tNext, tIfS, tRet, tRetN, tDrop, tAsg, gName, tPar, tPar3, tAug, ipI, tVar, tC, tOp, tUn, tCB, tD, tDK, tCons, tNil, rI, rI0, rU, tB, tTest, tAnd, tOr, tNot, tAndV, tOrV, tNotV, tIf, rEq, rNe, scal_ii, scal_bb, scal_ss, rGcd_eq, tBits, List.set_cons_zero, List.set_cons_succ, List.getElem?_cons_zero, List.getElem?_cons_succ, Option.some.injEq, exists_eq_left', V.int.injEq, V.bl.injEq, V.str.injEq, true_and, and_true, decide_eq_true_eq, List.cons.injEq, exists_eq_left, Bool.false_eq_true, if_false, if_true, ite_true, ite_false, Bool.not_eq_true', decide_eq_false_iff_not, Bool.not_not, e4]
      refine ⟨_, .inr (SqT.of e4), fun L nL => ?_⟩
      refine Eq.mpr (hC4 _ _) ?_
      refine seq_gen fun C5 hC5 => ?_
      have eL : (upd H4 L (.lst [.int q.1, .int q.2.1, .int q.2.2.1, .int q.2.2.2])) L = some (.lst [.int q.1, .int q.2.1, .int q.2.2.1, .int q.2.2.2]) := upd_same
      have e5 := (Same.upd (o := .lst [.int q.1, .int q.2.1, .int q.2.2.1, .int q.2.2.2]) nL) _ _ e4
      have k5 : Same H (upd H4 L (.lst [.int q.1, .int q.2.1, .int q.2.2.1, .int q.2.2.2])) := k4.trans (Same.upd nL)
      generalize upd H4 L (.lst [.int q.1, .int q.2.1, .int q.2.2.1, .int q.2.2.2]) = H5 at *
      simp only [cxK, wipe, tYes, List.map_cons, List.map_nil, rIxL, rSum, tSl, rSlL, tNoPart, tPart, exists_and_left, and_assoc, V.ref.injEq, HO.lst.injEq, HO.tup.injEq, tFor_eq, iRng1, iRng2, iList, iTup, tLc_eq, tLst, tTup, gSub, rSetL, gT, gL, gTup, gCons, gNil, atI_0, atI_1, atI_2, atI_3, List.length_cons, List.length_nil, Nat.zero_add, Nat.reduceAdd, Nat.reduceLeDiff, ixN_30, ixN_31, ixN_32, Int.reduceLT, Int.reduceLE, Int.reduceNeg, upd_same, reduceCtorEq, false_and, exists_false, or_false, false_or, tNext, tIfS, tRet, tRetN, tDrop, tAsg, gName, tPar, tPar3, tAug, ipI, tVar, tC, tOp, tUn, tCB, tD, tDK, tCons, tNil, rI, rI0, rU, tB, tTest, tAnd, tOr, tNot, tAndV, tOrV, tNotV, tIf, rEq, rNe, scal_ii, scal_bb, scal_ss, rGcd_eq, tBits, List.set_cons_zero, List.set_cons_succ, List.getElem?_cons_zero, List.getElem?_cons_succ, Option.some.injEq, exists_eq_left', V.int.injEq, V.bl.injEq, V.str.injEq, true_and, and_true, decide_eq_true_eq, List.cons.injEq, exists_eq_left, Bool.false_eq_true, if_false, if_true, ite_true, ite_false, Bool.not_eq_true', decide_eq_false_iff_not, Bool.not_not, e5, eL]
      refine ⟨_, rfl, okV_of (tyS_lst eL) (by decide), fun H6 s6 => ?_⟩
      rw [cutB_of (tyS_lst eL) (by decide)]
      refine ⟨false, false, rfl, rfl, ?_⟩
      refine ⟨_, rfl, ?_⟩
      rw [if_neg (by decide)]
      have e6 := s6 _ _ e5
      refine ⟨_, .inr (SqT.of e6), fun M nM => ?_⟩
      refine ne_ints [q.1, q.2.1, q.2.2.1, q.2.2.2] ((Same.upd nM) _ _ (s6 _ _ eL)) upd_same (shaped_ints _) ⟨false, rfl, ?_⟩
      rw [if_neg (by decide)]
      have e7 := (Same.upd (o := .lst [.int q.1, .int q.2.1, .int q.2.2.1, .int q.2.2.2]) nM) _ _ e6
      have k7 : Same H (upd H6 M (.lst [.int q.1, .int q.2.1, .int q.2.2.1, .int q.2.2.2])) := (k5.trans s6).trans (Same.upd nM)
      refine Eq.mpr (hC5 _ _) ?_
      generalize upd H6 M (.lst [.int q.1, .int q.2.1, .int q.2.2.1, .int q.2.2.2]) = H7 at *
      simp only [cxK, wipe, tYes, List.map_cons, List.map_nil, rIxL, rSum, tSl, rSlL, tNoPart, tPart, exists_and_left, and_assoc, V.ref.injEq, HO.lst.injEq, HO.tup.injEq, tFor_eq, iRng1, iRng2, iList, iTup, tLc_eq, tLst, tTup, gSub, rSetL, gT, gL, gTup, gCons, gNil, atI_0, atI_1, atI_2, atI_3, List.length_cons, List.length_nil, Nat.zero_add, Nat.reduceAdd, Nat.reduceLeDiff, ixN_30, ixN_31, ixN_32, Int.reduceLT, Int.reduceLE, Int.reduceNeg, upd_same, reduceCtorEq, false_and, exists_false, or_false, false_or, tNext, tIfS, tRet, tRetN, tDrop, tAsg, gName, tPar, tPar3, tAug, ipI, tVar, tC, tOp, tUn, tCB, tD, tDK, tCons, tNil, rI, rI0, rU, tB, tTest, tAnd, tOr, tNot, tAndV, tOrV, tNotV, tIf, rEq, rNe, scal_ii, scal_bb, scal_ss, rGcd_eq, tBits, List.set_cons_zero, List.set_cons_succ, List.getElem?_cons_zero, List.getElem?_cons_succ, Option.some.injEq, exists_eq_left', V.int.injEq, V.bl.injEq, V.str.injEq, true_and, and_true, decide_eq_true_eq, List.cons.injEq, exists_eq_left, Bool.false_eq_true, if_false, if_true, ite_true, ite_false, Bool.not_eq_true', decide_eq_false_iff_not, Bool.not_not, e7]
      have a0 : Same H7 H7 := Same.refl _
      have ed := e7
      refine ⟨_, .inr (SqT.of e7), fun p1 n1 => ?_⟩
      have s1 : Same H7 (upd H7 p1 (.lst [V.int q.1, V.int q.2.1, V.int q.2.2.1, V.int q.2.2.2])) := Same.upd n1
      have e1 : (upd H7 p1 (.lst [V.int q.1, V.int q.2.1, V.int q.2.2.1, V.int q.2.2.2])) p1 = some (.lst [V.int q.1, V.int q.2.1, V.int q.2.2.1, V.int q.2.2.2]) := upd_same
      have a1 := a0.trans s1
      generalize upd H7 p1 (.lst [V.int q.1, V.int q.2.1, V.int q.2.2.1, V.int q.2.2.2]) = w1 at s1 e1 a1 ⊢
      refine ⟨p, cutV4 q, rfl, SqT.of (a1 _ _ ed), fun h => absurd h (show ¬ (HT.sIx 4 0 none = 0 ∧ HT.sIx 4 4 (some 3) = 4) by decide), fun _ p2 n2 => ?_⟩
      rw [show cutV (cutV4 q) none (some 3) = [V.int q.1, V.int q.2.1, V.int q.2.2.1] from rfl]
      have s2 : Same w1 (upd w1 p2 (.tup [V.int q.1, V.int q.2.1, V.int q.2.2.1])) := Same.upd n2
      have e2 : (upd w1 p2 (.tup [V.int q.1, V.int q.2.1, V.int q.2.2.1])) p2 = some (.tup [V.int q.1, V.int q.2.1, V.int q.2.2.1]) := upd_same
      have a2 := a1.trans s2
      generalize upd w1 p2 (.tup [V.int q.1, V.int q.2.1, V.int q.2.2.1]) = w2 at s2 e2 a2 ⊢
      refine ⟨by decide, fun p3 n3 => ?_⟩
      have s3 : Same w2 (upd w2 p3 (.tup [V.int 1])) := Same.upd n3
      have e3 : (upd w2 p3 (.tup [V.int 1])) p3 = some (.tup [V.int 1]) := upd_same
      have a3 := a2.trans s3
      generalize upd w2 p3 (.tup [V.int 1]) = w3 at s3 e3 a3 ⊢
      refine ⟨p, p3, [V.int q.1, V.int q.2.1, V.int q.2.2.1, V.int q.2.2.2], [V.int 1], rfl, rfl, SqT.of (a3 _ _ ed), SqT.of e3, (show 5 ≤ sizeLine by decide), fun h => absurd h (by simp), fun _ h => absurd h (by simp), fun _ _ p4 n4 => ?_⟩
      have s4 : Same w3 (upd w3 p4 (.tup ([V.int q.1, V.int q.2.1, V.int q.2.2.1, V.int q.2.2.2] ++ [V.int 1]))) := Same.upd n4
      have e4 : (upd w3 p4 (.tup ([V.int q.1, V.int q.2.1, V.int q.2.2.1, V.int q.2.2.2] ++ [V.int 1]))) p4 = some (.tup ([V.int q.1, V.int q.2.1, V.int q.2.2.1, V.int q.2.2.2] ++ [V.int 1])) := upd_same
      have a4 := a3.trans s4
      generalize upd w3 p4 (.tup ([V.int q.1, V.int q.2.1, V.int q.2.2.1, V.int q.2.2.2] ++ [V.int 1])) = w4 at s4 e4 a4 ⊢
      refine ⟨by decide, fun p5 n5 => ?_⟩
      have s5 : Same w4 (upd w4 p5 (.tup [V.ref p])) := Same.upd n5
      have e5 : (upd w4 p5 (.tup [V.ref p])) p5 = some (.tup [V.ref p]) := upd_same
      have a5 := a4.trans s5
      generalize upd w4 p5 (.tup [V.ref p]) = w5 at s5 e5 a5 ⊢
      refine ⟨by decide, fun p6 n6 => ?_⟩
      have s6 : Same w5 (upd w5 p6 (.tup [])) := Same.upd n6
      have e6 : (upd w5 p6 (.tup [])) p6 = some (.tup []) := upd_same
      have a6 := a5.trans s6
      generalize upd w5 p6 (.tup []) = w6 at s6 e6 a6 ⊢
      refine ⟨by decide, fun p7 n7 => ?_⟩
      have s7 : Same w6 (upd w6 p7 (.lst [V.ref p1, V.ref p2, V.ref p4, V.ref p5, V.non, V.int 0, V.str (Str.ofString "0111"), V.ref p6])) := Same.upd n7
      have e7 : (upd w6 p7 (.lst [V.ref p1, V.ref p2, V.ref p4, V.ref p5, V.non, V.int 0, V.str (Str.ofString "0111"), V.ref p6])) p7 = some (.lst [V.ref p1, V.ref p2, V.ref p4, V.ref p5, V.non, V.int 0, V.str (Str.ofString "0111"), V.ref p6]) := upd_same
      have a7 := a6.trans s7
      generalize upd w6 p7 (.lst [V.ref p1, V.ref p2, V.ref p4, V.ref p5, V.non, V.int 0, V.str (Str.ofString "0111"), V.ref p6]) = w7 at s7 e7 a7 ⊢
      refine ⟨⟨_, SqL.of e7⟩, fun Dd nD => ?_⟩
      have items : ∀ v ∈ [V.ref p1, V.ref p2, V.ref p4, V.ref p5, V.non, V.int 0, V.str (Str.ofString "0111"), V.ref p6], OkV w7 v ∧ cutB w7 v = false := by
        intro v hv
        simp only [List.mem_cons, List.not_mem_nil, or_false] at hv
        have itsA : ∀ (ns : List Int) (y : V), y ∈ ns.map V.int → OkItem w7 y := fun ns y hy => by
          obtain ⟨n, _, rfl⟩ := List.mem_map.mp hy
          exact ⟨"int", rfl⟩
        rcases hv with rfl | rfl | rfl | rfl | rfl | rfl | rfl | rfl
        · exact ⟨okV_of (tyS_lst ((((((s2.trans s3).trans s4).trans s5).trans s6).trans s7) _ _ e1)) (by decide), cutB_of (tyS_lst ((((((s2.trans s3).trans s4).trans s5).trans s6).trans s7) _ _ e1)) (by decide)⟩
        · exact ⟨okV_tup (((((s3.trans s4).trans s5).trans s6).trans s7) _ _ e2) (itsA [q.1, q.2.1, q.2.2.1]), cutB_len (((((s3.trans s4).trans s5).trans s6).trans s7) _ _ e2) (show 3 ≠ 4 by decide)⟩
        · exact ⟨okV_tup (((s5.trans s6).trans s7) _ _ e4) (itsA [q.1, q.2.1, q.2.2.1, q.2.2.2, 1]), cutB_len (((s5.trans s6).trans s7) _ _ e4) (show 5 ≠ 4 by decide)⟩
        · exact ⟨okV_tup ((s6.trans s7) _ _ e5) (fun y hy => by rw [List.mem_singleton] at hy; subst hy; exact ⟨"tuple", tyS_tup (a7 _ _ ed)⟩), cutB_len ((s6.trans s7) _ _ e5) (show 1 ≠ 4 by decide)⟩
        · exact ⟨okV_of (t := "NoneType") rfl (by decide), cutB_of (t := "NoneType") rfl (by decide)⟩
        · exact ⟨okV_of (t := "int") rfl (by decide), cutB_of (t := "int") rfl (by decide)⟩
        · exact ⟨okV_of (t := "str") rfl (by decide), cutB_of (t := "str") rfl (by decide)⟩
        · exact ⟨okV_tup0 (s7 _ _ e6), cutB_len (s7 _ _ e6) (show 0 ≠ 4 by decide)⟩
      refine lcW_list (xs := [V.ref p1, V.ref p2, V.ref p4, V.ref p5, V.non, V.int 0, V.str (Str.ofString "0111"), V.ref p6]) (InvE07 w7 Dd) ⟨Same.upd nD, upd_same⟩ (fun j H8 _ z => SqL.of (z.1 _ _ e7)) ?_ ?_
      · rintro j v H8 hv ⟨s8, f8⟩
        obtain ⟨ok, rb⟩ := items v (List.mem_of_getElem? hv)
        refine ⟨rfl, ?_⟩
        simp only [cxK, wipe, tYes, List.map_cons, List.map_nil, rIxL, rSum, tSl, rSlL, tNoPart, tPart, exists_and_left, and_assoc, V.ref.injEq, HO.lst.injEq, HO.tup.injEq, tFor_eq, iRng1, iRng2, iList, iTup, tLc_eq, tLst, tTup, gSub, rSetL, gT, gL, gTup, gCons, gNil, atI_0, atI_1, atI_2, atI_3, List.length_cons, List.length_nil, Nat.zero_add, Nat.reduceAdd, Nat.reduceLeDiff, ixN_30, ixN_31, ixN_32, Int.reduceLT, Int.reduceLE, Int.reduceNeg, upd_same, reduceCtorEq, false_and, exists_false, or_false, false_or, tSeq, tNext, tIfS, tRet, tRetN, tDrop, tAsg, gName, tPar, tPar3, tAug, ipI, tVar, tC, tOp, tUn, tCB, tD, tDK, tCons, tNil, rI, rI0, rU, tB, tTest, tAnd, tOr, tNot, tAndV, tOrV, tNotV, tIf, rEq, rNe, scal_ii, scal_bb, scal_ss, rGcd_eq, tBits, List.set_cons_zero, List.set_cons_succ, List.getElem?_cons_zero, List.getElem?_cons_succ, Option.some.injEq, exists_eq_left', V.int.injEq, V.bl.injEq, V.str.injEq, true_and, and_true, decide_eq_true_eq, List.cons.injEq, exists_eq_left, Bool.false_eq_true, if_false, if_true, ite_true, ite_false, Bool.not_eq_true', decide_eq_false_iff_not, Bool.not_not]
        refine ⟨v, rfl, ok.same s8, fun H9 s9 => ?_⟩
        rw [cutB_same s8 ok.1, rb]
        refine ⟨false, false, rfl, rfl, ?_⟩
        refine ⟨_, rfl, ?_⟩
        rw [if_neg (by decide)]
        exact ⟨s8.trans s9, s9 _ _ f8⟩
      · rintro H8 ⟨s8, f8⟩
        refine ⟨by decide, fun E nE => ?_⟩
        exact eq_nil ((Same.upd nE) _ _ f8) upd_same (kk _ (((k7.trans a7).trans s8).trans (Same.upd nE)))

def InvLaw07 (a : Addr) (H : Hp) : Nat → SV → Hp → Prop := fun _ σ H2 => ∃ t1 t2 t3 t4 : Option V, σ = [some (.ref a), t1, t2, t3, t4] ∧ Same H H2
def InvB07 (h : Hp) (Dd : Addr) : Nat → Hp → Prop := fun j H2 => Same h H2 ∧ H2 Dd = some (.lst (([true, true, false, false, false].take j).map V.bl))
def InvIn07 (a g : Addr) (i : Nat) (H : Hp) : Nat → SV → Hp → Prop := fun j σ H2 => ∃ t3 t4 : Option V, σ = [some (.ref a), some (.int (0 + (i : Int))), some (.ref g), t3, t4] ∧ GenAt H2 g (100000 + 300 * j) ∧ Keep g H H2

theorem okLaw {f : Addr} {fd : FuncData} (F : Fun K "law" "law" s_Law f fd) (T : Txt K mg) {fLawGenerator : Addr} {fdLawGenerator : FuncData} (D_LawGenerator : DefAt P w K mg base 2 "_law_generator" fLawGenerator fdLawGenerator ["_law_script", "_law_index"] (spGen K)) {fLawGreatRight : Addr} {fdLawGreatRight : FuncData} (D_LawGreatRight : DefAt P w K mg base 6 "_law_great_right" fLawGreatRight fdLawGreatRight [] (spGreat)) {fLawDrawn : Addr} {fdLawDrawn : FuncData} (D_LawDrawn : DefAt P w K mg base 3 "_law_drawn" fLawDrawn fdLawDrawn ["_law_generator_here", "_law_most"] (spDrawnCut)) {fIsCutting : Addr} {fdIsCutting : FuncData} (D_IsCutting : DefAt P w K mg base 3 "is_cutting" fIsCutting fdIsCutting ["value"] (spIsCutting)) {fMeasureOf : Addr} {fdMeasureOf : FuncData} (D_MeasureOf : DefAt P w K mg base 5 "measure_of" fMeasureOf fdMeasureOf ["cutting"] (spMeasureOf0)) {fLawValueRight : Addr} {fdLawValueRight : FuncData} (D_LawValueRight : DefAt P w K mg base 6 "_law_value_right" fLawValueRight fdLawValueRight ["_law_value"] (spFour 100)) {fLawNearRight : Addr} {fdLawNearRight : FuncData} (D_LawNearRight : DefAt P w K mg base 7 "_law_near_right" fLawNearRight fdLawNearRight ["_law_value"] (spFour 90)) : FnOk P w K mg base CX0 8 f fd ["_law_script"] (spLaw K) := by
  refine F.ok scLaw (fun vs H Q E h => ?_) (fun cdv A outer s H vs Q E hr h => ?_)
  · obtain ⟨a, ns, rfl, _⟩ := h
    rfl
  · obtain ⟨a, ns, rfl, hS, hl, kk⟩ := h
    refine ⟨_, (pss_cons (ps_for PassesOwn.never rfl (pi_range1 rfl T.range (pa_cons pe_int pa_nil)) (pg_name (i := 1) scLaw.nd rfl (Or.inl rfl)) (pss_cons (ps_set (i := 2) scLaw.nd rfl (Or.inl rfl) (pe_d D_LawGenerator hr (pa_cons (pv 0) (pa_cons (pv 1) pa_nil))))
        (pss_one (ps_for PassesOwn.never rfl (pi_list (pe_lst (pa_cons pe_int (pa_cons pe_int (pa_cons (pe_op op_powX pe_int pe_int) pa_nil))))) (pg_name (i := 3) scLaw.nd rfl (Or.inl rfl)) (pss_cons (ps_set (i := 4) scLaw.nd rfl (Or.inl rfl) (pe_d D_LawDrawn hr (pa_cons (pv 2) (pa_cons (pv 3) pa_nil))))
        (pss_one (ps_if (PW.pt (pw_or (pt_not (pt_val (pe_d D_LawValueRight hr (pa_cons (pv 4) pa_nil)))) (pw_or1 (pt_not (pt_val (pe_d D_LawNearRight hr (pa_cons (pv 4) pa_nil))))))) (pss_one (ps_ret pe_bl)) pss_nil)))))))
        (pss_cons (ps_if (pt_cmpR (op_neD hr.units) (pe_lc (own := [("_law_value", 4)]) (g := gName 4) (tt := tYes) rfl scLaw.nd (pi_list (pe_lst (pa_cons (pe_tup (pa_cons pe_int (pa_cons pe_int (pa_cons pe_int (pa_cons (pe_un un_neg pe_int) pa_nil))))) (pa_cons (pe_tup (pa_cons pe_int (pa_cons pe_int (pa_cons pe_int (pa_cons (pe_un un_neg pe_int) pa_nil))))) (pa_cons (pe_tup (pa_cons pe_int (pa_cons pe_int (pa_cons pe_int (pa_cons (pe_un un_neg pe_int) pa_nil))))) (pa_cons (pe_tup (pa_cons pe_int (pa_cons pe_int (pa_cons pe_int (pa_cons pe_int pa_nil))))) (pa_cons (pe_tup (pa_cons pe_int (pa_cons pe_int (pa_cons pe_int (pa_cons (pe_un un_neg pe_int) pa_nil))))) pa_nil))))))) (blkOk_by (N := N_Law) (sc := defScope s_Law) (by decide +kernel)) (fun _ _ _ _ _ => pg_name (i := 4) scLaw.nd rfl (Or.inl rfl)) (fun _ _ _ _ _ => pts_nil) (fun _ _ _ _ _ => (pe_d D_IsCutting hr (pa_cons (pv 4) pa_nil)))) (pe_lst (pa_cons pe_bl (pa_cons pe_bl (pa_cons pe_bl (pa_cons pe_bl (pa_cons pe_bl pa_nil)))))) (nomark _)) (pss_one (ps_ret pe_bl)) pss_nil)
        (pss_one (ps_ret (pe_and (pe_d0 D_LawGreatRight hr) (pe_and (pe_cmpR op_eq (pe_d D_MeasureOf hr (pa_cons (pe_tup (pa_cons pe_int (pa_cons pe_int (pa_cons pe_int (pa_cons (pe_un un_neg pe_int) pa_nil))))) pa_nil)) pe_int (nomark _)) (pe_and (pe_cmpR op_eq (pe_d D_MeasureOf hr (pa_cons (pe_tup (pa_cons pe_int (pa_cons (pe_op op_powX pe_int pe_int) (pa_cons pe_int (pa_cons pe_int pa_nil))))) pa_nil)) (pe_op op_add pe_int (pe_op op_mulU pe_int (pe_op op_powX pe_int pe_int))) (nomark _)) (pe_one (pe_cmpR op_isBl (pe_d D_IsCutting hr (pa_cons (pe_tup (pa_cons pe_bl (pa_cons pe_int (pa_cons pe_int (pa_cons (pe_un un_neg pe_int) pa_nil))))) pa_nil)) pe_bl (nomark _)))))))))), ?_⟩
    have e0 : start N_Law [.ref a] = [some (.ref a), none, none, none, none] := rfl
    rw [e0]
    simp only [cxK, wipe, tYes, List.map_cons, List.map_nil, rIxL, rSum, tSl, rSlL, tNoPart, tPart, exists_and_left, and_assoc, V.ref.injEq, HO.lst.injEq, HO.tup.injEq, tFor_eq, iRng1, iRng2, iList, iTup, tLc_eq, tLst, tTup, gSub, rSetL, gT, gL, gTup, gCons, gNil, atI_0, atI_1, atI_2, atI_3, List.length_cons, List.length_nil, Nat.zero_add, Nat.reduceAdd, Nat.reduceLeDiff, ixN_30, ixN_31, ixN_32, Int.reduceLT, Int.reduceLE, Int.reduceNeg, upd_same, reduceCtorEq, false_and, exists_false, or_false, false_or, tNext, tIfS, tRet, tRetN, tDrop, tAsg, gName, tPar, tPar3, tAug, ipI, tVar, tC, tOp, tUn, tCB, tD, tDK, tCons, tNil, rI, rI0, rU, tB, tTest, tAnd, tOr, tNot, tAndV, tOrV, tNotV, tIf, rEq, rNe, scal_ii, scal_bb, scal_ss, rGcd_eq, tBits, List.set_cons_zero, List.set_cons_succ, List.getElem?_cons_zero, List.getElem?_cons_succ, Option.some.injEq, exists_eq_left', V.int.injEq, V.bl.injEq, V.str.injEq, true_and, and_true, decide_eq_true_eq, List.cons.injEq, exists_eq_left, Bool.false_eq_true, if_false, if_true, ite_true, ite_false, Bool.not_eq_true', decide_eq_false_iff_not, Bool.not_not]
    refine seq_gen fun C1 hC1 => ?_
    simp only [cxK, wipe, tYes, List.map_cons, List.map_nil, rIxL, rSum, tSl, rSlL, tNoPart, tPart, exists_and_left, and_assoc, V.ref.injEq, HO.lst.injEq, HO.tup.injEq, tFor_eq, iRng1, iRng2, iList, iTup, tLc_eq, tLst, tTup, gSub, rSetL, gT, gL, gTup, gCons, gNil, atI_0, atI_1, atI_2, atI_3, List.length_cons, List.length_nil, Nat.zero_add, Nat.reduceAdd, Nat.reduceLeDiff, ixN_30, ixN_31, ixN_32, Int.reduceLT, Int.reduceLE, Int.reduceNeg, upd_same, reduceCtorEq, false_and, exists_false, or_false, false_or, tNext, tIfS, tRet, tRetN, tDrop, tAsg, gName, tPar, tPar3, tAug, ipI, tVar, tC, tOp, tUn, tCB, tD, tDK, tCons, tNil, rI, rI0, rU, tB, tTest, tAnd, tOr, tNot, tAndV, tOrV, tNotV, tIf, rEq, rNe, scal_ii, scal_bb, scal_ss, rGcd_eq, tBits, List.set_cons_zero, List.set_cons_succ, List.getElem?_cons_zero, List.getElem?_cons_succ, Option.some.injEq, exists_eq_left', V.int.injEq, V.bl.injEq, V.str.injEq, true_and, and_true, decide_eq_true_eq, List.cons.injEq, exists_eq_left, Bool.false_eq_true, if_false, if_true, ite_true, ite_false, Bool.not_eq_true', decide_eq_false_iff_not, Bool.not_not]
    refine ⟨by decide, by decide, ?_⟩
    refine forW_range (InvLaw07 a H) ⟨none, none, none, none, rfl, Same.refl _⟩ ?_ (fun σ' H2 z => ?_)
    · rintro i σ' H2 hi ⟨t1, t2, t3, t4, rfl, s2⟩
      have hi2 : i < 2 := hi
      simp only [cxK, wipe, tYes, List.map_cons, List.map_nil, rIxL, rSum, tSl, rSlL, tNoPart, tPart, exists_and_left, and_assoc, V.ref.injEq, HO.lst.injEq, HO.tup.injEq, tFor_eq, iRng1, iRng2, iList, iTup, tLc_eq, tLst, tTup, gSub, rSetL, gT, gL, gTup, gCons, gNil, atI_0, atI_1, atI_2, atI_3, List.length_cons, List.length_nil, Nat.zero_add, Nat.reduceAdd, Nat.reduceLeDiff, ixN_30, ixN_31, ixN_32, Int.reduceLT, Int.reduceLE, Int.reduceNeg, upd_same, reduceCtorEq, false_and, exists_false, or_false, false_or, tNext, tIfS, tRet, tRetN, tDrop, tAsg, gName, tPar, tPar3, tAug, ipI, tVar, tC, tOp, tUn, tCB, tD, tDK, tCons, tNil, rI, rI0, rU, tB, tTest, tAnd, tOr, tNot, tAndV, tOrV, tNotV, tIf, rEq, rNe, scal_ii, scal_bb, scal_ss, rGcd_eq, tBits, List.set_cons_zero, List.set_cons_succ, List.getElem?_cons_zero, List.getElem?_cons_succ, Option.some.injEq, exists_eq_left', V.int.injEq, V.bl.injEq, V.str.injEq, true_and, and_true, decide_eq_true_eq, List.cons.injEq, exists_eq_left, Bool.false_eq_true, if_false, if_true, ite_true, ite_false, Bool.not_eq_true', decide_eq_false_iff_not, Bool.not_not]
      refine seq_gen fun C2 hC2 => ?_
      simp only [cxK, wipe, tYes, List.map_cons, List.map_nil, rIxL, rSum, tSl, rSlL, tNoPart, tPart, exists_and_left, and_assoc, V.ref.injEq, HO.lst.injEq, HO.tup.injEq, tFor_eq, iRng1, iRng2, iList, iTup, tLc_eq, tLst, tTup, gSub, rSetL, gT, gL, gTup, gCons, gNil, atI_0, atI_1, atI_2, atI_3, List.length_cons, List.length_nil, Nat.zero_add, Nat.reduceAdd, Nat.reduceLeDiff, ixN_30, ixN_31, ixN_32, Int.reduceLT, Int.reduceLE, Int.reduceNeg, upd_same, reduceCtorEq, false_and, exists_false, or_false, false_or, tNext, tIfS, tRet, tRetN, tDrop, tAsg, gName, tPar, tPar3, tAug, ipI, tVar, tC, tOp, tUn, tCB, tD, tDK, tCons, tNil, rI, rI0, rU, tB, tTest, tAnd, tOr, tNot, tAndV, tOrV, tNotV, tIf, rEq, rNe, scal_ii, scal_bb, scal_ss, rGcd_eq, tBits, List.set_cons_zero, List.set_cons_succ, List.getElem?_cons_zero, List.getElem?_cons_succ, Option.some.injEq, exists_eq_left', V.int.injEq, V.bl.injEq, V.str.injEq, true_and, and_true, decide_eq_true_eq, List.cons.injEq, exists_eq_left, Bool.false_eq_true, if_false, if_true, ite_true, ite_false, Bool.not_eq_true', decide_eq_false_iff_not, Bool.not_not]
      refine ⟨a, ns, 0 + (i : Int), rfl, SqL.ext hS s2, by omega, by omega, fun g H3 ng s3 G3 => ?_⟩
      refine Eq.mpr (hC2 _ _) ?_
      refine ⟨cpow (by decide) (by decide) (by decide) (by decide), by decide, fun L nL => ⟨⟨_, SqL.of upd_same⟩, ?_⟩⟩
      have eL : (upd H3 L (.lst [V.int 6, V.int 20, V.int (10 ^ Int.toNat 14)])) L = some (.lst [V.int 6, V.int 20, V.int (10 ^ Int.toNat 14)]) := upd_same
      have sL : Same H3 (upd H3 L (.lst [V.int 6, V.int 20, V.int (10 ^ Int.toNat 14)])) := Same.upd nL
      have hLg := G3.nn nL
      have GL := G3.same sL
      generalize upd H3 L (.lst [V.int 6, V.int 20, V.int (10 ^ Int.toNat 14)]) = hL at *
      refine forW_list (xs := [V.int 6, V.int 20, V.int (10 ^ Int.toNat 14)]) (InvIn07 a g i hL) ⟨t3, t4, rfl, GL, Keep.refl _ _⟩ (fun j σ4 H4 _ z => ?_) ?_ (fun σ4 H4 z => ?_)
      · obtain ⟨_, _, _, _, K4⟩ := z
        exact SqL.of (K4 _ _ hLg eL)
      · rintro j v σ4 H4 hv ⟨u3, u4, rfl, G4, K4⟩
        obtain ⟨n, rfl, hn1, hn2⟩ : ∃ n : Int, v = .int n ∧ 1 ≤ n ∧ n ≤ 10 ^ 15 := by
          have hm := List.mem_of_getElem? hv
          simp only [List.mem_cons, List.not_mem_nil, or_false] at hm
          rcases hm with rfl | rfl | rfl
          · exact ⟨_, rfl, by decide, by decide⟩
          · exact ⟨_, rfl, by decide, by decide⟩
          · exact ⟨_, rfl, by decide +kernel, by decide +kernel⟩
        have hj : j < 3 := (List.getElem?_eq_some_iff.mp hv).1
        simp only [cxK, wipe, tYes, List.map_cons, List.map_nil, rIxL, rSum, tSl, rSlL, tNoPart, tPart, exists_and_left, and_assoc, V.ref.injEq, HO.lst.injEq, HO.tup.injEq, tFor_eq, iRng1, iRng2, iList, iTup, tLc_eq, tLst, tTup, gSub, rSetL, gT, gL, gTup, gCons, gNil, atI_0, atI_1, atI_2, atI_3, List.length_cons, List.length_nil, Nat.zero_add, Nat.reduceAdd, Nat.reduceLeDiff, ixN_30, ixN_31, ixN_32, Int.reduceLT, Int.reduceLE, Int.reduceNeg, upd_same, reduceCtorEq, false_and, exists_false, or_false, false_or, tSeq, tNext, tIfS, tRet, tRetN, tDrop, tAsg, gName, tPar, tPar3, tAug, ipI, tVar, tC, tOp, tUn, tCB, tD, tDK, tCons, tNil, rI, rI0, rU, tB, tTest, tAnd, tOr, tNot, tAndV, tOrV, tNotV, tIf, rEq, rNe, scal_ii, scal_bb, scal_ss, rGcd_eq, tBits, List.set_cons_zero, List.set_cons_succ, List.getElem?_cons_zero, List.getElem?_cons_succ, Option.some.injEq, exists_eq_left', V.int.injEq, V.bl.injEq, V.str.injEq, true_and, and_true, decide_eq_true_eq, List.cons.injEq, exists_eq_left, Bool.false_eq_true, if_false, if_true, ite_true, ite_false, Bool.not_eq_true', decide_eq_false_iff_not, Bool.not_not]
        refine ⟨g, n, 100000 + 300 * j, rfl, G4, by omega, hn1, hn2, fun q p H5 hz np e5 G5 K5 => ?_⟩
        refine ⟨p, q, rfl, e5, hz.up (by decide), fun H6 s6 => ⟨true, rfl, ?_⟩⟩
        rw [if_neg (by decide)]
        refine ⟨p, q, rfl, s6 _ _ e5, hz.up (by decide), fun H7 s7 => ⟨true, rfl, ?_⟩⟩
        rw [if_neg (by decide)]
        exact ⟨_, _, rfl, (G5.same (s6.trans s7)).mono (by omega), (K4.trans K5).trans (Keep.of (s6.trans s7))⟩
      · obtain ⟨u3, u4, rfl, G4, K4⟩ := z
        refine ⟨_, _, _, _, rfl, s2.trans fun b o e => ?_⟩
        exact K4 b o (ne_of_none e ng) (sL _ _ (s3 _ _ e))
    · obtain ⟨t1, t2, t3, t4, rfl, s2⟩ := z
      refine Eq.mpr (hC1 _ _) ?_
      refine seq_gen fun C3 hC3 => ?_
      simp only [cxK, wipe, tYes, List.map_cons, List.map_nil, rIxL, rSum, tSl, rSlL, tNoPart, tPart, exists_and_left, and_assoc, V.ref.injEq, HO.lst.injEq, HO.tup.injEq, tFor_eq, iRng1, iRng2, iList, iTup, tLc_eq, tLst, tTup, gSub, rSetL, gT, gL, gTup, gCons, gNil, atI_0, atI_1, atI_2, atI_3, List.length_cons, List.length_nil, Nat.zero_add, Nat.reduceAdd, Nat.reduceLeDiff, ixN_30, ixN_31, ixN_32, Int.reduceLT, Int.reduceLE, Int.reduceNeg, upd_same, reduceCtorEq, false_and, exists_false, or_false, false_or, tNext, tIfS, tRet, tRetN, tDrop, tAsg, gName, tPar, tPar3, tAug, ipI, tVar, tC, tOp, tUn, tCB, tD, tDK, tCons, tNil, rI, rI0, rU, tB, tTest, tAnd, tOr, tNot, tAndV, tOrV, tNotV, tIf, rEq, rNe, scal_ii, scal_bb, scal_ss, rGcd_eq, tBits, List.set_cons_zero, List.set_cons_succ, List.getElem?_cons_zero, List.getElem?_cons_succ, Option.some.injEq, exists_eq_left', V.int.injEq, V.bl.injEq, V.str.injEq, true_and, and_true, decide_eq_true_eq, List.cons.injEq, exists_eq_left, Bool.false_eq_true, if_false, if_true, ite_true, ite_false, Bool.not_eq_true', decide_eq_false_iff_not, Bool.not_not]
      have a0 : Same H2 H2 := Same.refl _
      refine ⟨by decide, fun p1 n1 => ?_⟩
      have s1 : Same H2 (upd H2 p1 (.tup [V.int 0, V.int 1, V.int 1, V.int (-1)])) := Same.upd n1
      have e1 : (upd H2 p1 (.tup [V.int 0, V.int 1, V.int 1, V.int (-1)])) p1 = some (.tup [V.int 0, V.int 1, V.int 1, V.int (-1)]) := upd_same
      have a1 := a0.trans s1
      generalize upd H2 p1 (.tup [V.int 0, V.int 1, V.int 1, V.int (-1)]) = w1 at s1 e1 a1 ⊢
      refine ⟨by decide, fun p2 n2 => ?_⟩
      have s2 : Same w1 (upd w1 p2 (.tup [V.int 1, V.int 2, V.int 2, V.int (-1)])) := Same.upd n2
      have e2 : (upd w1 p2 (.tup [V.int 1, V.int 2, V.int 2, V.int (-1)])) p2 = some (.tup [V.int 1, V.int 2, V.int 2, V.int (-1)]) := upd_same
      have a2 := a1.trans s2
      generalize upd w1 p2 (.tup [V.int 1, V.int 2, V.int 2, V.int (-1)]) = w2 at s2 e2 a2 ⊢
      refine ⟨by decide, fun p3 n3 => ?_⟩
      have s3 : Same w2 (upd w2 p3 (.tup [V.int 0, V.int 2, V.int 2, V.int (-2)])) := Same.upd n3
      have e3 : (upd w2 p3 (.tup [V.int 0, V.int 2, V.int 2, V.int (-2)])) p3 = some (.tup [V.int 0, V.int 2, V.int 2, V.int (-2)]) := upd_same
      have a3 := a2.trans s3
      generalize upd w2 p3 (.tup [V.int 0, V.int 2, V.int 2, V.int (-2)]) = w3 at s3 e3 a3 ⊢
      refine ⟨by decide, fun p4 n4 => ?_⟩
      have s4 : Same w3 (upd w3 p4 (.tup [V.int 0, V.int 1, V.int 1, V.int 0])) := Same.upd n4
      have e4 : (upd w3 p4 (.tup [V.int 0, V.int 1, V.int 1, V.int 0])) p4 = some (.tup [V.int 0, V.int 1, V.int 1, V.int 0]) := upd_same
      have a4 := a3.trans s4
      generalize upd w3 p4 (.tup [V.int 0, V.int 1, V.int 1, V.int 0]) = w4 at s4 e4 a4 ⊢
      refine ⟨by decide, fun p5 n5 => ?_⟩
      have s5 : Same w4 (upd w4 p5 (.tup [V.int 2, V.int 2, V.int 2, V.int (-1)])) := Same.upd n5
      have e5 : (upd w4 p5 (.tup [V.int 2, V.int 2, V.int 2, V.int (-1)])) p5 = some (.tup [V.int 2, V.int 2, V.int 2, V.int (-1)]) := upd_same
      have a5 := a4.trans s5
      generalize upd w4 p5 (.tup [V.int 2, V.int 2, V.int 2, V.int (-1)]) = w5 at s5 e5 a5 ⊢
      refine ⟨by decide, fun p6 n6 => ?_⟩
      have s6 : Same w5 (upd w5 p6 (.lst [V.ref p1, V.ref p2, V.ref p3, V.ref p4, V.ref p5])) := Same.upd n6
      have e6 : (upd w5 p6 (.lst [V.ref p1, V.ref p2, V.ref p3, V.ref p4, V.ref p5])) p6 = some (.lst [V.ref p1, V.ref p2, V.ref p3, V.ref p4, V.ref p5]) := upd_same
      have a6 := a5.trans s6
      generalize upd w5 p6 (.lst [V.ref p1, V.ref p2, V.ref p3, V.ref p4, V.ref p5]) = w6 at s6 e6 a6 ⊢
      refine ⟨⟨_, SqL.of e6⟩, fun Dd nD => ?_⟩
      have items : ∀ (j : Nat) (v : V), [V.ref p1, V.ref p2, V.ref p3, V.ref p4, V.ref p5][j]? = some v → ∃ d, [true, true, false, false, false][j]? = some d ∧ OkV w6 v ∧ cutB w6 v = d := by
        intro j v hv
        have hj : j < 5 := (List.getElem?_eq_some_iff.mp hv).1
        rcases (show j = 0 ∨ j = 1 ∨ j = 2 ∨ j = 3 ∨ j = 4 by omega) with rfl | rfl | rfl | rfl | rfl
        · obtain rfl : V.ref p1 = v := Option.some.inj hv
          exact ⟨_, rfl, cutAt_okV (q := (0, 1, 1, -1)) (((((s2.trans s3).trans s4).trans s5).trans s6) _ _ e1), by rw [cutB_q (q := (0, 1, 1, -1)) (((((s2.trans s3).trans s4).trans s5).trans s6) _ _ e1)]; decide +kernel⟩
        · obtain rfl : V.ref p2 = v := Option.some.inj hv
          exact ⟨_, rfl, cutAt_okV (q := (1, 2, 2, -1)) ((((s3.trans s4).trans s5).trans s6) _ _ e2), by rw [cutB_q (q := (1, 2, 2, -1)) ((((s3.trans s4).trans s5).trans s6) _ _ e2)]; decide +kernel⟩
        · obtain rfl : V.ref p3 = v := Option.some.inj hv
          exact ⟨_, rfl, cutAt_okV (q := (0, 2, 2, -2)) (((s4.trans s5).trans s6) _ _ e3), by rw [cutB_q (q := (0, 2, 2, -2)) (((s4.trans s5).trans s6) _ _ e3)]; decide +kernel⟩
        · obtain rfl : V.ref p4 = v := Option.some.inj hv
          exact ⟨_, rfl, cutAt_okV (q := (0, 1, 1, 0)) ((s5.trans s6) _ _ e4), by rw [cutB_q (q := (0, 1, 1, 0)) ((s5.trans s6) _ _ e4)]; decide +kernel⟩
        · obtain rfl : V.ref p5 = v := Option.some.inj hv
          exact ⟨_, rfl, cutAt_okV (q := (2, 2, 2, -1)) (s6 _ _ e5), by rw [cutB_q (q := (2, 2, 2, -1)) (s6 _ _ e5)]; decide +kernel⟩
      refine lcW_list (xs := [V.ref p1, V.ref p2, V.ref p3, V.ref p4, V.ref p5]) (InvB07 w6 Dd) ⟨Same.upd nD, upd_same⟩ (fun j H8 _ z => SqL.of (z.1 _ _ e6)) ?_ ?_
      · rintro j v H8 hv ⟨s8, f8⟩
        obtain ⟨d, hd, ok, rb⟩ := items j v hv
        refine ⟨rfl, ?_⟩
        simp only [cxK, wipe, tYes, List.map_cons, List.map_nil, rIxL, rSum, tSl, rSlL, tNoPart, tPart, exists_and_left, and_assoc, V.ref.injEq, HO.lst.injEq, HO.tup.injEq, tFor_eq, iRng1, iRng2, iList, iTup, tLc_eq, tLst, tTup, gSub, rSetL, gT, gL, gTup, gCons, gNil, atI_0, atI_1, atI_2, atI_3, List.length_cons, List.length_nil, Nat.zero_add, Nat.reduceAdd, Nat.reduceLeDiff, ixN_30, ixN_31, ixN_32, Int.reduceLT, Int.reduceLE, Int.reduceNeg, upd_same, reduceCtorEq, false_and, exists_false, or_false, false_or, tSeq, tNext, tIfS, tRet, tRetN, tDrop, tAsg, gName, tPar, tPar3, tAug, ipI, tVar, tC, tOp, tUn, tCB, tD, tDK, tCons, tNil, rI, rI0, rU, tB, tTest, tAnd, tOr, tNot, tAndV, tOrV, tNotV, tIf, rEq, rNe, scal_ii, scal_bb, scal_ss, rGcd_eq, tBits, List.set_cons_zero, List.set_cons_succ, List.getElem?_cons_zero, List.getElem?_cons_succ, Option.some.injEq, exists_eq_left', V.int.injEq, V.bl.injEq, V.str.injEq, true_and, and_true, decide_eq_true_eq, List.cons.injEq, exists_eq_left, Bool.false_eq_true, if_false, if_true, ite_true, ite_false, Bool.not_eq_true', decide_eq_false_iff_not, Bool.not_not]
        refine ⟨v, rfl, ok.same s8, fun H9 s9 => ?_⟩
        rw [cutB_same s8 ok.1, rb]
        refine ⟨_, s9 _ _ f8, small1000 ?_, Same.upd2 (s8.trans s9) nD, ?_⟩
        · rw [List.length_map, List.length_take]
          have : [true, true, false, false, false].length = 5 := rfl
          omega
        · rw [upd_same, List.take_succ, hd, List.map_append]
          rfl
      · rintro H8 ⟨s8, f8⟩
        refine ⟨by decide, fun E nE => ?_⟩
        refine ne_bools [true, true, false, false, false] ((Same.upd nE) _ _ f8) upd_same ⟨false, rfl, ?_⟩
        rw [if_neg (by decide)]
        refine Eq.mpr (hC3 _ _) ?_
        simp only [cxK, wipe, tYes, List.map_cons, List.map_nil, rIxL, rSum, tSl, rSlL, tNoPart, tPart, exists_and_left, and_assoc, V.ref.injEq, HO.lst.injEq, HO.tup.injEq, tFor_eq, iRng1, iRng2, iList, iTup, tLc_eq, tLst, tTup, gSub, rSetL, gT, gL, gTup, gCons, gNil, atI_0, atI_1, atI_2, atI_3, List.length_cons, List.length_nil, Nat.zero_add, Nat.reduceAdd, Nat.reduceLeDiff, ixN_30, ixN_31, ixN_32, Int.reduceLT, Int.reduceLE, Int.reduceNeg, upd_same, reduceCtorEq, false_and, exists_false, or_false, false_or, tSeq, tNext, tIfS, tRet, tRetN, tDrop, tAsg, gName, tPar, tPar3, tAug, ipI, tVar, tC, tOp, tUn, tCB, tD, tDK, tCons, tNil, rI, rI0, rU, tB, tTest, tAnd, tOr, tNot, tAndV, tOrV, tNotV, tIf, rEq, rNe, scal_ii, scal_bb, scal_ss, rGcd_eq, tBits, List.set_cons_zero, List.set_cons_succ, List.getElem?_cons_zero, List.getElem?_cons_succ, Option.some.injEq, exists_eq_left', V.int.injEq, V.bl.injEq, V.str.injEq, true_and, and_true, decide_eq_true_eq, List.cons.injEq, exists_eq_left, Bool.false_eq_true, if_false, if_true, ite_true, ite_false, Bool.not_eq_true', decide_eq_false_iff_not, Bool.not_not]
        refine ⟨rfl, fun J1 j1 => ⟨true, rfl, ?_⟩⟩
        rw [if_pos rfl]
        refine ⟨by decide, fun b1 m1 => ⟨b1, (1, 2, 2, -1), rfl, ⟨upd_same, by decide +kernel⟩, ⟨by decide, by decide, by decide, by decide⟩, fun J2 j2 => ?_⟩⟩
        rw [show measC (1, 2, 2, -1) = 17 by decide]
        refine ⟨by simp only [scal_ii], ?_⟩
        rw [if_pos rfl]
        have hP : (10 : Int) ^ Int.toNat 28 = 10000000000000000000000000000 := by decide +kernel
        simp only [hP]
        refine ⟨cpow (by decide) (by decide) (by decide) (by decide), by decide, fun b2 m2 => ⟨b2, (0, 10000000000000000000000000000, 1, 1), rfl, ⟨upd_same, by decide +kernel⟩, ⟨by decide, by decide +kernel, by decide, by decide⟩, fun J3 j3 => ?_⟩⟩
        rw [show measC (0, 10000000000000000000000000000, 1, 1) = 1 + 4 * 10000000000000000000000000000 by decide +kernel]
        refine ⟨cpow (by decide) (by decide) (by decide) (by decide), okm (n := 10) (m := 300) (by decide) (by decide +kernel) (by decide) (by decide), by simp only [scal_ii], ?_⟩
        rw [if_pos rfl]
        refine ⟨by decide, fun b3 m3 => ⟨_, rfl, ?_, fun J4 j4 => ?_⟩⟩
        · exact okV_tup upd_same (fun y hy => by
            simp only [List.mem_cons, List.not_mem_nil, or_false] at hy
            rcases hy with rfl | rfl | rfl | rfl
            · exact ⟨"bool", rfl⟩
            all_goals exact ⟨"int", rfl⟩)
        · rw [cutB_not (by rw [wholes_tup upd_same]; rfl)]
          exact ⟨false, false, rfl, rfl, kk _⟩

end
theorem all_mk {l : PySem.W.OpenLaw} {w : World} {K : PySem.W.Frag} {h : Heap} {mg : Str → Option Value} {fa : Addr} (X : K.In h) (G : h.Ns mainGlobals mg) (hfa : mg "law" = some (.ref fa))
    {od0 an0 : Option Addr} {sl0 : Array (Option Value)} {oc0 kV0 dc0 pm0 cd0 ct0 : Value} {f0 : Addr} (a0 : PySem.W.nsIn K mainGlobals "is_whole" = some (some (.ref f0))) (l0 : K.lookup f0 = some ⟨oc0, od0, .func (PySem.W.fnOf "is_whole" "is_whole" (defArgs s_IsWhole) (defBody s_IsWhole) (defScope s_IsWhole) .none kV0 dc0 pm0 an0 cd0 ct0), sl0⟩) (c0 : PySem.W.codeIn K cd0 "is_whole" = true) (k0 : PySem.W.keepIn K (.ref f0) = true)
    {od1 an1 : Option Addr} {sl1 : Array (Option Value)} {oc1 kV1 dc1 pm1 cd1 ct1 : Value} {f1 : Addr} (a1 : PySem.W.nsIn K mainGlobals "_are_without_divisor" = some (some (.ref f1))) (l1 : K.lookup f1 = some ⟨oc1, od1, .func (PySem.W.fnOf "_are_without_divisor" "_are_without_divisor" (defArgs s_AreWithoutDivisor) (defBody s_AreWithoutDivisor) (defScope s_AreWithoutDivisor) .none kV1 dc1 pm1 an1 cd1 ct1), sl1⟩) (c1 : PySem.W.codeIn K cd1 "_are_without_divisor" = true) (k1 : PySem.W.keepIn K (.ref f1) = true)
    {od2 an2 : Option Addr} {sl2 : Array (Option Value)} {oc2 kV2 dc2 pm2 cd2 ct2 : Value} {f2 : Addr} (a2 : PySem.W.nsIn K mainGlobals "_has_whole_root" = some (some (.ref f2))) (l2 : K.lookup f2 = some ⟨oc2, od2, .func (PySem.W.fnOf "_has_whole_root" "_has_whole_root" (defArgs s_HasWholeRoot) (defBody s_HasWholeRoot) (defScope s_HasWholeRoot) .none kV2 dc2 pm2 an2 cd2 ct2), sl2⟩) (c2 : PySem.W.codeIn K cd2 "_has_whole_root" = true) (k2 : PySem.W.keepIn K (.ref f2) = true)
    {od3 an3 : Option Addr} {sl3 : Array (Option Value)} {oc3 kV3 dc3 pm3 cd3 ct3 : Value} {f3 : Addr} (a3 : PySem.W.nsIn K mainGlobals "_side" = some (some (.ref f3))) (l3 : K.lookup f3 = some ⟨oc3, od3, .func (PySem.W.fnOf "_side" "_side" (defArgs s_Side) (defBody s_Side) (defScope s_Side) .none kV3 dc3 pm3 an3 cd3 ct3), sl3⟩) (c3 : PySem.W.codeIn K cd3 "_side" = true) (k3 : PySem.W.keepIn K (.ref f3) = true)
    {od4 an4 : Option Addr} {sl4 : Array (Option Value)} {oc4 kV4 dc4 pm4 cd4 ct4 : Value} {f4 : Addr} (a4 : PySem.W.nsIn K mainGlobals "_floor_of_multiple" = some (some (.ref f4))) (l4 : K.lookup f4 = some ⟨oc4, od4, .func (PySem.W.fnOf "_floor_of_multiple" "_floor_of_multiple" (defArgs s_FloorOfMultiple) (defBody s_FloorOfMultiple) (defScope s_FloorOfMultiple) .none kV4 dc4 pm4 an4 cd4 ct4), sl4⟩) (c4 : PySem.W.codeIn K cd4 "_floor_of_multiple" = true) (k4 : PySem.W.keepIn K (.ref f4) = true)
    {od5 an5 : Option Addr} {sl5 : Array (Option Value)} {oc5 kV5 dc5 pm5 cd5 ct5 : Value} {f5 : Addr} (a5 : PySem.W.nsIn K mainGlobals "_law_hash" = some (some (.ref f5))) (l5 : K.lookup f5 = some ⟨oc5, od5, .func (PySem.W.fnOf "_law_hash" "_law_hash" (defArgs s_LawHash) (defBody s_LawHash) (defScope s_LawHash) .none kV5 dc5 pm5 an5 cd5 ct5), sl5⟩) (c5 : PySem.W.codeIn K cd5 "_law_hash" = true) (k5 : PySem.W.keepIn K (.ref f5) = true)
    {od6 an6 : Option Addr} {sl6 : Array (Option Value)} {oc6 kV6 dc6 pm6 cd6 ct6 : Value} {f6 : Addr} (a6 : PySem.W.nsIn K mainGlobals "_law_cell" = some (some (.ref f6))) (l6 : K.lookup f6 = some ⟨oc6, od6, .func (PySem.W.fnOf "_law_cell" "_law_cell" (defArgs s_LawCell) (defBody s_LawCell) (defScope s_LawCell) .none kV6 dc6 pm6 an6 cd6 ct6), sl6⟩) (c6 : PySem.W.codeIn K cd6 "_law_cell" = true) (k6 : PySem.W.keepIn K (.ref f6) = true)
    {od7 an7 : Option Addr} {sl7 : Array (Option Value)} {oc7 kV7 dc7 pm7 cd7 ct7 : Value} {f7 : Addr} (a7 : PySem.W.nsIn K mainGlobals "_law_common" = some (some (.ref f7))) (l7 : K.lookup f7 = some ⟨oc7, od7, .func (PySem.W.fnOf "_law_common" "_law_common" (defArgs s_LawCommon) (defBody s_LawCommon) (defScope s_LawCommon) .none kV7 dc7 pm7 an7 cd7 ct7), sl7⟩) (c7 : PySem.W.codeIn K cd7 "_law_common" = true) (k7 : PySem.W.keepIn K (.ref f7) = true)
    {od8 an8 : Option Addr} {sl8 : Array (Option Value)} {oc8 kV8 dc8 pm8 cd8 ct8 : Value} {f8 : Addr} (a8 : PySem.W.nsIn K mainGlobals "_law_measure" = some (some (.ref f8))) (l8 : K.lookup f8 = some ⟨oc8, od8, .func (PySem.W.fnOf "_law_measure" "_law_measure" (defArgs s_LawMeasure) (defBody s_LawMeasure) (defScope s_LawMeasure) .none kV8 dc8 pm8 an8 cd8 ct8), sl8⟩) (c8 : PySem.W.codeIn K cd8 "_law_measure" = true) (k8 : PySem.W.keepIn K (.ref f8) = true)
    {od9 an9 : Option Addr} {sl9 : Array (Option Value)} {oc9 kV9 dc9 pm9 cd9 ct9 : Value} {f9 : Addr} (a9 : PySem.W.nsIn K mainGlobals "are_wholes" = some (some (.ref f9))) (l9 : K.lookup f9 = some ⟨oc9, od9, .func (PySem.W.fnOf "are_wholes" "are_wholes" (defArgs s_AreWholes) (defBody s_AreWholes) (defScope s_AreWholes) .none kV9 dc9 pm9 an9 cd9 ct9), sl9⟩) (c9 : PySem.W.codeIn K cd9 "are_wholes" = true) (k9 : PySem.W.keepIn K (.ref f9) = true)
    {od10 an10 : Option Addr} {sl10 : Array (Option Value)} {oc10 kV10 dc10 pm10 cd10 ct10 : Value} {f10 : Addr} (a10 : PySem.W.nsIn K mainGlobals "is_measure" = some (some (.ref f10))) (l10 : K.lookup f10 = some ⟨oc10, od10, .func (PySem.W.fnOf "is_measure" "is_measure" (defArgs s_IsMeasure) (defBody s_IsMeasure) (defScope s_IsMeasure) .none kV10 dc10 pm10 an10 cd10 ct10), sl10⟩) (c10 : PySem.W.codeIn K cd10 "is_measure" = true) (k10 : PySem.W.keepIn K (.ref f10) = true)
    {od11 an11 : Option Addr} {sl11 : Array (Option Value)} {oc11 kV11 dc11 pm11 cd11 ct11 : Value} {f11 : Addr} (a11 : PySem.W.nsIn K mainGlobals "_reduced" = some (some (.ref f11))) (l11 : K.lookup f11 = some ⟨oc11, od11, .func (PySem.W.fnOf "_reduced" "_reduced" (defArgs s_Reduced) (defBody s_Reduced) (defScope s_Reduced) .none kV11 dc11 pm11 an11 cd11 ct11), sl11⟩) (c11 : PySem.W.codeIn K cd11 "_reduced" = true) (k11 : PySem.W.keepIn K (.ref f11) = true)
    {od12 an12 : Option Addr} {sl12 : Array (Option Value)} {oc12 kV12 dc12 pm12 cd12 ct12 : Value} {f12 : Addr} (a12 : PySem.W.nsIn K mainGlobals "_law_random" = some (some (.ref f12))) (l12 : K.lookup f12 = some ⟨oc12, od12, .func (PySem.W.fnOf "_law_random" "_law_random" (defArgs s_LawRandom) (defBody s_LawRandom) (defScope s_LawRandom) .none kV12 dc12 pm12 an12 cd12 ct12), sl12⟩) (c12 : PySem.W.codeIn K cd12 "_law_random" = true) (k12 : PySem.W.keepIn K (.ref f12) = true)
    {od13 an13 : Option Addr} {sl13 : Array (Option Value)} {oc13 kV13 dc13 pm13 cd13 ct13 : Value} {f13 : Addr} (a13 : PySem.W.nsIn K mainGlobals "_law_generator" = some (some (.ref f13))) (l13 : K.lookup f13 = some ⟨oc13, od13, .func (PySem.W.fnOf "_law_generator" "_law_generator" (defArgs s_LawGenerator) (defBody s_LawGenerator) (defScope s_LawGenerator) .none kV13 dc13 pm13 an13 cd13 ct13), sl13⟩) (c13 : PySem.W.codeIn K cd13 "_law_generator" = true) (k13 : PySem.W.keepIn K (.ref f13) = true)
    {od14 an14 : Option Addr} {sl14 : Array (Option Value)} {oc14 kV14 dc14 pm14 cd14 ct14 : Value} {f14 : Addr} (a14 : PySem.W.nsIn K mainGlobals "_law_is_cutting" = some (some (.ref f14))) (l14 : K.lookup f14 = some ⟨oc14, od14, .func (PySem.W.fnOf "_law_is_cutting" "_law_is_cutting" (defArgs s_LawIsCutting) (defBody s_LawIsCutting) (defScope s_LawIsCutting) .none kV14 dc14 pm14 an14 cd14 ct14), sl14⟩) (c14 : PySem.W.codeIn K cd14 "_law_is_cutting" = true) (k14 : PySem.W.keepIn K (.ref f14) = true)
    {od15 an15 : Option Addr} {sl15 : Array (Option Value)} {oc15 kV15 dc15 pm15 cd15 ct15 : Value} {f15 : Addr} (a15 : PySem.W.nsIn K mainGlobals "check_measure" = some (some (.ref f15))) (l15 : K.lookup f15 = some ⟨oc15, od15, .func (PySem.W.fnOf "check_measure" "check_measure" (defArgs s_CheckMeasure) (defBody s_CheckMeasure) (defScope s_CheckMeasure) .none kV15 dc15 pm15 an15 cd15 ct15), sl15⟩) (c15 : PySem.W.codeIn K cd15 "check_measure" = true) (k15 : PySem.W.keepIn K (.ref f15) = true)
    {od16 an16 : Option Addr} {sl16 : Array (Option Value)} {oc16 kV16 dc16 pm16 cd16 ct16 : Value} {f16 : Addr} (a16 : PySem.W.nsIn K mainGlobals "is_cutting" = some (some (.ref f16))) (l16 : K.lookup f16 = some ⟨oc16, od16, .func (PySem.W.fnOf "is_cutting" "is_cutting" (defArgs s_IsCutting) (defBody s_IsCutting) (defScope s_IsCutting) .none kV16 dc16 pm16 an16 cd16 ct16), sl16⟩) (c16 : PySem.W.codeIn K cd16 "is_cutting" = true) (k16 : PySem.W.keepIn K (.ref f16) = true)
    {od17 an17 : Option Addr} {sl17 : Array (Option Value)} {oc17 kV17 dc17 pm17 cd17 ct17 : Value} {f17 : Addr} (a17 : PySem.W.nsIn K mainGlobals "_is_root_of" = some (some (.ref f17))) (l17 : K.lookup f17 = some ⟨oc17, od17, .func (PySem.W.fnOf "_is_root_of" "_is_root_of" (defArgs s_IsRootOf) (defBody s_IsRootOf) (defScope s_IsRootOf) .none kV17 dc17 pm17 an17 cd17 ct17), sl17⟩) (c17 : PySem.W.codeIn K cd17 "_is_root_of" = true) (k17 : PySem.W.keepIn K (.ref f17) = true)
    {od18 an18 : Option Addr} {sl18 : Array (Option Value)} {oc18 kV18 dc18 pm18 cd18 ct18 : Value} {f18 : Addr} (a18 : PySem.W.nsIn K mainGlobals "_multiplied" = some (some (.ref f18))) (l18 : K.lookup f18 = some ⟨oc18, od18, .func (PySem.W.fnOf "_multiplied" "_multiplied" (defArgs s_Multiplied) (defBody s_Multiplied) (defScope s_Multiplied) .none kV18 dc18 pm18 an18 cd18 ct18), sl18⟩) (c18 : PySem.W.codeIn K cd18 "_multiplied" = true) (k18 : PySem.W.keepIn K (.ref f18) = true)
    {od19 an19 : Option Addr} {sl19 : Array (Option Value)} {oc19 kV19 dc19 pm19 cd19 ct19 : Value} {f19 : Addr} (a19 : PySem.W.nsIn K mainGlobals "_law_drawn" = some (some (.ref f19))) (l19 : K.lookup f19 = some ⟨oc19, od19, .func (PySem.W.fnOf "_law_drawn" "_law_drawn" (defArgs s_LawDrawn) (defBody s_LawDrawn) (defScope s_LawDrawn) .none kV19 dc19 pm19 an19 cd19 ct19), sl19⟩) (c19 : PySem.W.codeIn K cd19 "_law_drawn" = true) (k19 : PySem.W.keepIn K (.ref f19) = true)
    {od20 an20 : Option Addr} {sl20 : Array (Option Value)} {oc20 kV20 dc20 pm20 cd20 ct20 : Value} {f20 : Addr} (a20 : PySem.W.nsIn K mainGlobals "whole_root" = some (some (.ref f20))) (l20 : K.lookup f20 = some ⟨oc20, od20, .func (PySem.W.fnOf "whole_root" "whole_root" (defArgs s_WholeRoot) (defBody s_WholeRoot) (defScope s_WholeRoot) .none kV20 dc20 pm20 an20 cd20 ct20), sl20⟩) (c20 : PySem.W.codeIn K cd20 "whole_root" = true) (k20 : PySem.W.keepIn K (.ref f20) = true)
    {od21 an21 : Option Addr} {sl21 : Array (Option Value)} {oc21 kV21 dc21 pm21 cd21 ct21 : Value} {f21 : Addr} (a21 : PySem.W.nsIn K mainGlobals "check_cutting" = some (some (.ref f21))) (l21 : K.lookup f21 = some ⟨oc21, od21, .func (PySem.W.fnOf "check_cutting" "check_cutting" (defArgs s_CheckCutting) (defBody s_CheckCutting) (defScope s_CheckCutting) .none kV21 dc21 pm21 an21 cd21 ct21), sl21⟩) (c21 : PySem.W.codeIn K cd21 "check_cutting" = true) (k21 : PySem.W.keepIn K (.ref f21) = true)
    {od22 an22 : Option Addr} {sl22 : Array (Option Value)} {oc22 kV22 dc22 pm22 cd22 ct22 : Value} {f22 : Addr} (a22 : PySem.W.nsIn K mainGlobals "_check" = some (some (.ref f22))) (l22 : K.lookup f22 = some ⟨oc22, od22, .func (PySem.W.fnOf "_check" "_check" (defArgs s_Check) (defBody s_Check) (defScope s_Check) .none kV22 dc22 pm22 an22 cd22 ct22), sl22⟩) (c22 : PySem.W.codeIn K cd22 "_check" = true) (k22 : PySem.W.keepIn K (.ref f22) = true)
    {od23 an23 : Option Addr} {sl23 : Array (Option Value)} {oc23 kV23 dc23 pm23 cd23 ct23 : Value} {f23 : Addr} (a23 : PySem.W.nsIn K mainGlobals "measure_of" = some (some (.ref f23))) (l23 : K.lookup f23 = some ⟨oc23, od23, .func (PySem.W.fnOf "measure_of" "measure_of" (defArgs s_MeasureOf) (defBody s_MeasureOf) (defScope s_MeasureOf) .none kV23 dc23 pm23 an23 cd23 ct23), sl23⟩) (c23 : PySem.W.codeIn K cd23 "measure_of" = true) (k23 : PySem.W.keepIn K (.ref f23) = true)
    {od24 an24 : Option Addr} {sl24 : Array (Option Value)} {oc24 kV24 dc24 pm24 cd24 ct24 : Value} {f24 : Addr} (a24 : PySem.W.nsIn K mainGlobals "root_times" = some (some (.ref f24))) (l24 : K.lookup f24 = some ⟨oc24, od24, .func (PySem.W.fnOf "root_times" "root_times" (defArgs s_RootTimes) (defBody s_RootTimes) (defScope s_RootTimes) .none kV24 dc24 pm24 an24 cd24 ct24), sl24⟩) (c24 : PySem.W.codeIn K cd24 "root_times" = true) (k24 : PySem.W.keepIn K (.ref f24) = true)
    {od25 an25 : Option Addr} {sl25 : Array (Option Value)} {oc25 kV25 dc25 pm25 cd25 ct25 : Value} {f25 : Addr} (a25 : PySem.W.nsIn K mainGlobals "root_side" = some (some (.ref f25))) (l25 : K.lookup f25 = some ⟨oc25, od25, .func (PySem.W.fnOf "root_side" "root_side" (defArgs s_RootSide) (defBody s_RootSide) (defScope s_RootSide) .none kV25 dc25 pm25 an25 cd25 ct25), sl25⟩) (c25 : PySem.W.codeIn K cd25 "root_side" = true) (k25 : PySem.W.keepIn K (.ref f25) = true)
    {od26 an26 : Option Addr} {sl26 : Array (Option Value)} {oc26 kV26 dc26 pm26 cd26 ct26 : Value} {f26 : Addr} (a26 : PySem.W.nsIn K mainGlobals "root_floor" = some (some (.ref f26))) (l26 : K.lookup f26 = some ⟨oc26, od26, .func (PySem.W.fnOf "root_floor" "root_floor" (defArgs s_RootFloor) (defBody s_RootFloor) (defScope s_RootFloor) .none kV26 dc26 pm26 an26 cd26 ct26), sl26⟩) (c26 : PySem.W.codeIn K cd26 "root_floor" = true) (k26 : PySem.W.keepIn K (.ref f26) = true)
    {od27 an27 : Option Addr} {sl27 : Array (Option Value)} {oc27 kV27 dc27 pm27 cd27 ct27 : Value} {f27 : Addr} (a27 : PySem.W.nsIn K mainGlobals "_law_root_right" = some (some (.ref f27))) (l27 : K.lookup f27 = some ⟨oc27, od27, .func (PySem.W.fnOf "_law_root_right" "_law_root_right" (defArgs s_LawRootRight) (defBody s_LawRootRight) (defScope s_LawRootRight) .none kV27 dc27 pm27 an27 cd27 ct27), sl27⟩) (c27 : PySem.W.codeIn K cd27 "_law_root_right" = true) (k27 : PySem.W.keepIn K (.ref f27) = true)
    {od28 an28 : Option Addr} {sl28 : Array (Option Value)} {oc28 kV28 dc28 pm28 cd28 ct28 : Value} {f28 : Addr} (a28 : PySem.W.nsIn K mainGlobals "_law_great_right" = some (some (.ref f28))) (l28 : K.lookup f28 = some ⟨oc28, od28, .func (PySem.W.fnOf "_law_great_right" "_law_great_right" (defArgs s_LawGreatRight) (defBody s_LawGreatRight) (defScope s_LawGreatRight) .none kV28 dc28 pm28 an28 cd28 ct28), sl28⟩) (c28 : PySem.W.codeIn K cd28 "_law_great_right" = true) (k28 : PySem.W.keepIn K (.ref f28) = true)
    {od29 an29 : Option Addr} {sl29 : Array (Option Value)} {oc29 kV29 dc29 pm29 cd29 ct29 : Value} {f29 : Addr} (a29 : PySem.W.nsIn K mainGlobals "_law_value_right" = some (some (.ref f29))) (l29 : K.lookup f29 = some ⟨oc29, od29, .func (PySem.W.fnOf "_law_value_right" "_law_value_right" (defArgs s_LawValueRight) (defBody s_LawValueRight) (defScope s_LawValueRight) .none kV29 dc29 pm29 an29 cd29 ct29), sl29⟩) (c29 : PySem.W.codeIn K cd29 "_law_value_right" = true) (k29 : PySem.W.keepIn K (.ref f29) = true)
    {od30 an30 : Option Addr} {sl30 : Array (Option Value)} {oc30 kV30 dc30 pm30 cd30 ct30 : Value} {f30 : Addr} (a30 : PySem.W.nsIn K mainGlobals "_law_near_right" = some (some (.ref f30))) (l30 : K.lookup f30 = some ⟨oc30, od30, .func (PySem.W.fnOf "_law_near_right" "_law_near_right" (defArgs s_LawNearRight) (defBody s_LawNearRight) (defScope s_LawNearRight) .none kV30 dc30 pm30 an30 cd30 ct30), sl30⟩) (c30 : PySem.W.codeIn K cd30 "_law_near_right" = true) (k30 : PySem.W.keepIn K (.ref f30) = true)
    {od31 an31 : Option Addr} {sl31 : Array (Option Value)} {oc31 kV31 dc31 pm31 cd31 ct31 : Value} {f31 : Addr} (a31 : PySem.W.nsIn K mainGlobals "law" = some (some (.ref f31))) (l31 : K.lookup f31 = some ⟨oc31, od31, .func (PySem.W.fnOf "law" "law" (defArgs s_Law) (defBody s_Law) (defScope s_Law) .none kV31 dc31 pm31 an31 cd31 ct31), sl31⟩) (c31 : PySem.W.codeIn K cd31 "law" = true) (k31 : PySem.W.keepIn K (.ref f31) = true) (z_abs : PySem.W.nsIn K mainGlobals "abs" = some none) (z_all : PySem.W.nsIn K mainGlobals "all" = some none) (z_bool : PySem.W.nsIn K mainGlobals "bool" = some none) (z_int : PySem.W.nsIn K mainGlobals "int" = some none) (z_isinstance : PySem.W.nsIn K mainGlobals "isinstance" = some none) (z_len : PySem.W.nsIn K mainGlobals "len" = some none) (z_list : PySem.W.nsIn K mainGlobals "list" = some none) (z_max : PySem.W.nsIn K mainGlobals "max" = some none) (z_range : PySem.W.nsIn K mainGlobals "range" = some none) (z_repr : PySem.W.nsIn K mainGlobals "repr" = some none) (z_sorted : PySem.W.nsIn K mainGlobals "sorted" = some none) (z_sum : PySem.W.nsIn K mainGlobals "sum" = some none) (z_tuple : PySem.W.nsIn K mainGlobals "tuple" = some none) (z_gcd : PySem.W.nsIn K mainGlobals "gcd" = some (some (.builtin "math.gcd"))) (z_isqrt : PySem.W.nsIn K mainGlobals "isqrt" = some (some (.builtin "math.isqrt"))) :
    ∃ fd : FuncData, (∀ (s : Shared) (v : Value), BindsTo s fd ⟨[v], []⟩ [("_law_script", v)]) ∧ ∀ base : Heap, K.In base → base.Ns mainGlobals mg → FnOk l.prog w K mg base CX0 8 fa fd ["_law_script"] (Kx.spLaw K) := by
  have e := hfa.symm.trans (PySem.W.mg_of X G a31)
  cases e
  have T : Txt K mg := ⟨PySem.W.mg_none_of X G z_abs, PySem.W.mg_none_of X G z_all, PySem.W.mg_none_of X G z_bool, PySem.W.mg_none_of X G z_int, PySem.W.mg_none_of X G z_isinstance, PySem.W.mg_none_of X G z_len, PySem.W.mg_none_of X G z_list, PySem.W.mg_none_of X G z_max, PySem.W.mg_none_of X G z_range, PySem.W.mg_none_of X G z_repr, PySem.W.mg_none_of X G z_sorted, PySem.W.mg_none_of X G z_sum, PySem.W.mg_none_of X G z_tuple, PySem.W.mg_of X G z_gcd, PySem.W.mg_of X G z_isqrt⟩
  have F0 := fun_mk (st := s_IsWhole) l0 c0 k0
  have b0 := F0.binds (ps := ["value"]) fun _ _ _ _ _ _ us hl => match us, hl with | [_], _ => rfl
  have F1 := fun_mk (st := s_AreWithoutDivisor) l1 c1 k1
  have b1 := F1.binds (ps := ["one", "other", "third"]) fun _ _ _ _ _ _ us hl => match us, hl with | [_, _, _], _ => rfl
  have F2 := fun_mk (st := s_HasWholeRoot) l2 c2 k2
  have b2 := F2.binds (ps := ["measure"]) fun _ _ _ _ _ _ us hl => match us, hl with | [_], _ => rfl
  have F3 := fun_mk (st := s_Side) l3 c3 k3
  have b3 := F3.binds (ps := ["number"]) fun _ _ _ _ _ _ us hl => match us, hl with | [_], _ => rfl
  have F4 := fun_mk (st := s_FloorOfMultiple) l4 c4 k4
  have b4 := F4.binds (ps := ["measure", "times"]) fun _ _ _ _ _ _ us hl => match us, hl with | [_, _], _ => rfl
  have F5 := fun_mk (st := s_LawHash) l5 c5 k5
  have b5 := F5.binds (ps := ["_law_seed", "_law_index"]) fun _ _ _ _ _ _ us hl => match us, hl with | [_, _], _ => rfl
  have F6 := fun_mk (st := s_LawCell) l6 c6 k6
  have b6 := F6.binds (ps := ["_law_script", "_law_index"]) fun _ _ _ _ _ _ us hl => match us, hl with | [_, _], _ => rfl
  have F7 := fun_mk (st := s_LawCommon) l7 c7 k7
  have b7 := F7.binds (ps := ["_law_one", "_law_other"]) fun _ _ _ _ _ _ us hl => match us, hl with | [_, _], _ => rfl
  have F8 := fun_mk (st := s_LawMeasure) l8 c8 k8
  have b8 := F8.binds (ps := ["_law_cutting"]) fun _ _ _ _ _ _ us hl => match us, hl with | [_], _ => rfl
  have F9 := fun_mk (st := s_AreWholes) l9 c9 k9
  have b9 := F9.binds (ps := ["value", "many"]) fun _ _ _ _ _ _ us hl => match us, hl with | [_, _], _ => rfl
  have F10 := fun_mk (st := s_IsMeasure) l10 c10 k10
  have b10 := F10.binds (ps := ["value"]) fun _ _ _ _ _ _ us hl => match us, hl with | [_], _ => rfl
  have F11 := fun_mk (st := s_Reduced) l11 c11 k11
  have b11 := F11.binds (ps := ["measure", "x", "y", "below"]) fun _ _ _ _ _ _ us hl => match us, hl with | [_, _, _, _], _ => rfl
  have F12 := fun_mk (st := s_LawRandom) l12 c12 k12
  have b12 := F12.binds (ps := ["_law_generator_here", "_law_bound"]) fun _ _ _ _ _ _ us hl => match us, hl with | [_, _], _ => rfl
  have F13 := fun_mk (st := s_LawGenerator) l13 c13 k13
  have b13 := F13.binds (ps := ["_law_script", "_law_index"]) fun _ _ _ _ _ _ us hl => match us, hl with | [_, _], _ => rfl
  have F14 := fun_mk (st := s_LawIsCutting) l14 c14 k14
  have b14 := F14.binds (ps := ["_law_a", "_law_b", "_law_c", "_law_e"]) fun _ _ _ _ _ _ us hl => match us, hl with | [_, _, _, _], _ => rfl
  have F15 := fun_mk (st := s_CheckMeasure) l15 c15 k15
  have b15 := F15.binds (ps := ["measure"]) fun _ _ _ _ _ _ us hl => match us, hl with | [_], _ => rfl
  have F16 := fun_mk (st := s_IsCutting) l16 c16 k16
  have b16 := F16.binds (ps := ["value"]) fun _ _ _ _ _ _ us hl => match us, hl with | [_], _ => rfl
  have F17 := fun_mk (st := s_IsRootOf) l17 c17 k17
  have b17 := F17.binds (ps := ["measure", "value"]) fun _ _ _ _ _ _ us hl => match us, hl with | [_, _], _ => rfl
  have F18 := fun_mk (st := s_Multiplied) l18 c18 k18
  have b18 := F18.binds (ps := ["measure", "one", "other"]) fun _ _ _ _ _ _ us hl => match us, hl with | [_, _, _], _ => rfl
  have F19 := fun_mk (st := s_LawDrawn) l19 c19 k19
  have b19 := F19.binds (ps := ["_law_generator_here", "_law_most"]) fun _ _ _ _ _ _ us hl => match us, hl with | [_, _], _ => rfl
  have F20 := fun_mk (st := s_WholeRoot) l20 c20 k20
  have b20 := F20.binds (ps := ["measure"]) fun _ _ _ _ _ _ us hl => match us, hl with | [_], _ => rfl
  have F21 := fun_mk (st := s_CheckCutting) l21 c21 k21
  have b21 := F21.binds (ps := ["cutting"]) fun _ _ _ _ _ _ us hl => match us, hl with | [_], _ => rfl
  have F22 := fun_mk (st := s_Check) l22 c22 k22
  have b22 := F22.binds (ps := ["measure", "roots"]) fun _ _ _ _ _ _ us hl => match us, hl with | [_, _], _ => rfl
  have F23 := fun_mk (st := s_MeasureOf) l23 c23 k23
  have b23 := F23.binds (ps := ["cutting"]) fun _ _ _ _ _ _ us hl => match us, hl with | [_], _ => rfl
  have F24 := fun_mk (st := s_RootTimes) l24 c24 k24
  have b24 := F24.binds (ps := ["measure", "one", "other"]) fun _ _ _ _ _ _ us hl => match us, hl with | [_, _, _], _ => rfl
  have F25 := fun_mk (st := s_RootSide) l25 c25 k25
  have b25 := F25.binds (ps := ["measure", "root"]) fun _ _ _ _ _ _ us hl => match us, hl with | [_, _], _ => rfl
  have F26 := fun_mk (st := s_RootFloor) l26 c26 k26
  have b26 := F26.binds (ps := ["measure", "root"]) fun _ _ _ _ _ _ us hl => match us, hl with | [_, _], _ => rfl
  have F27 := fun_mk (st := s_LawRootRight) l27 c27 k27
  have b27 := F27.binds (ps := ["_law_measure_here"]) fun _ _ _ _ _ _ us hl => match us, hl with | [_], _ => rfl
  have F28 := fun_mk (st := s_LawGreatRight) l28 c28 k28
  have b28 := F28.binds (ps := []) fun _ _ _ _ _ _ us hl => match us, hl with | [], _ => rfl
  have F29 := fun_mk (st := s_LawValueRight) l29 c29 k29
  have b29 := F29.binds (ps := ["_law_value"]) fun _ _ _ _ _ _ us hl => match us, hl with | [_], _ => rfl
  have F30 := fun_mk (st := s_LawNearRight) l30 c30 k30
  have b30 := F30.binds (ps := ["_law_value"]) fun _ _ _ _ _ _ us hl => match us, hl with | [_], _ => rfl
  have F31 := fun_mk (st := s_Law) l31 c31 k31
  have b31 := F31.binds (ps := ["_law_script"]) fun _ _ _ _ _ _ us hl => match us, hl with | [_], _ => rfl
  have kb_IsCutting_v : KB0 K _ ["value"] ["value"] g_IsCutting_v g_IsCutting_v := kb_mk F16 (fun _ _ _ _ _ _ ws hl => match ws, hl with | [_], _ => rfl) (fun {zs ws} hl r => match zs, hl, ws, r with | [_], _, _, (.cons r0 .nil) => (.cons r0 .nil)) (fun zs hl => match zs, hl with | [_], _ => rfl)
  have kb_MeasureOf_c : KB0 K _ ["cutting"] ["cutting"] g_MeasureOf_c g_MeasureOf_c := kb_mk F23 (fun _ _ _ _ _ _ ws hl => match ws, hl with | [_], _ => rfl) (fun {zs ws} hl r => match zs, hl, ws, r with | [_], _, _, (.cons r0 .nil) => (.cons r0 .nil)) (fun zs hl => match zs, hl with | [_], _ => rfl)
  refine ⟨PySem.W.fnOf "law" "law" (defArgs s_Law) (defBody s_Law) (defScope s_Law) .none kV31 dc31 pm31 an31 cd31 ct31, fun s v => .of_eq rfl, fun base _ _ => ?_⟩
  have D_IsWhole : DefAt l.prog w K mg base 1 "is_whole" f0 _ ["value"] (spWhole) := ⟨(okIsWhole (P := l.prog) (w := w) (mg := mg) (base := base) F0 T  ), PySem.W.mg_of X G a0, k0, b0⟩
  have D_AreWithoutDivisor : DefAt l.prog w K mg base 1 "_are_without_divisor" f1 _ ["one", "other", "third"] (spApart) := ⟨(okAreWithoutDivisor (P := l.prog) (w := w) (mg := mg) (base := base) F1 T  ), PySem.W.mg_of X G a1, k1, b1⟩
  have D_HasWholeRoot : DefAt l.prog w K mg base 1 "_has_whole_root" f2 _ ["measure"] (spHasRoot) := ⟨(okHasWholeRoot (P := l.prog) (w := w) (mg := mg) (base := base) F2 T  ), PySem.W.mg_of X G a2, k2, b2⟩
  have D_Side : DefAt l.prog w K mg base 1 "_side" f3 _ ["number"] (spSgn) := ⟨(okSide (P := l.prog) (w := w) (mg := mg) (base := base) F3 T  ), PySem.W.mg_of X G a3, k3, b3⟩
  have D_FloorOfMultiple : DefAt l.prog w K mg base 1 "_floor_of_multiple" f4 _ ["measure", "times"] (spFlM) := ⟨(okFloorOfMultiple (P := l.prog) (w := w) (mg := mg) (base := base) F4 T  ), PySem.W.mg_of X G a4, k4, b4⟩
  have D_LawHash : DefAt l.prog w K mg base 1 "_law_hash" f5 _ ["_law_seed", "_law_index"] (spHash) := ⟨(okLawHash (P := l.prog) (w := w) (mg := mg) (base := base) F5 T  ), PySem.W.mg_of X G a5, k5, b5⟩
  have D_LawCell : DefAt l.prog w K mg base 1 "_law_cell" f6 _ ["_law_script", "_law_index"] (spCell K) := ⟨(okLawCell (P := l.prog) (w := w) (mg := mg) (base := base) F6 T  ), PySem.W.mg_of X G a6, k6, b6⟩
  have D_LawCommon : DefAt l.prog w K mg base 1 "_law_common" f7 _ ["_law_one", "_law_other"] (spCommon) := ⟨(okLawCommon (P := l.prog) (w := w) (mg := mg) (base := base) F7 T  ), PySem.W.mg_of X G a7, k7, b7⟩
  have D_LawMeasure : DefAt l.prog w K mg base 1 "_law_measure" f8 _ ["_law_cutting"] (spLawMeasure4) := ⟨(okLawMeasure (P := l.prog) (w := w) (mg := mg) (base := base) F8 T  ), PySem.W.mg_of X G a8, k8, b8⟩
  have D_AreWholes : DefAt l.prog w K mg base 2 "are_wholes" f9 _ ["value", "many"] (spWholes) := ⟨(okAreWholes (P := l.prog) (w := w) (mg := mg) (base := base) F9 T D_IsWhole ), PySem.W.mg_of X G a9, k9, b9⟩
  have D_IsMeasure : DefAt l.prog w K mg base 2 "is_measure" f10 _ ["value"] (spIsMeasure) := ⟨(okIsMeasure (P := l.prog) (w := w) (mg := mg) (base := base) F10 T D_IsWhole ), PySem.W.mg_of X G a10, k10, b10⟩
  have D_Reduced : DefAt l.prog w K mg base 2 "_reduced" f11 _ ["measure", "x", "y", "below"] (spReduced) := ⟨(okReduced (P := l.prog) (w := w) (mg := mg) (base := base) F11 T D_HasWholeRoot ), PySem.W.mg_of X G a11, k11, b11⟩
  have D_LawRandom : DefAt l.prog w K mg base 2 "_law_random" f12 _ ["_law_generator_here", "_law_bound"] (spRandom) := ⟨(okLawRandom (P := l.prog) (w := w) (mg := mg) (base := base) F12 T D_LawHash ), PySem.W.mg_of X G a12, k12, b12⟩
  have D_LawGenerator : DefAt l.prog w K mg base 2 "_law_generator" f13 _ ["_law_script", "_law_index"] (spGen K) := ⟨(okLawGenerator (P := l.prog) (w := w) (mg := mg) (base := base) F13 T D_LawCell ), PySem.W.mg_of X G a13, k13, b13⟩
  have D_LawIsCutting : DefAt l.prog w K mg base 2 "_law_is_cutting" f14 _ ["_law_a", "_law_b", "_law_c", "_law_e"] (spLawIsCutting) := ⟨(okLawIsCutting (P := l.prog) (w := w) (mg := mg) (base := base) F14 T D_LawCommon ), PySem.W.mg_of X G a14, k14, b14⟩
  have D_CheckMeasure : DefAt l.prog w K mg base 3 "check_measure" f15 _ ["measure"] (spCheckMeasure0) := ⟨(okCheckMeasure (P := l.prog) (w := w) (mg := mg) (base := base) F15 T D_IsMeasure ), PySem.W.mg_of X G a15, k15, b15⟩
  have D_IsCutting : DefAt l.prog w K mg base 3 "is_cutting" f16 _ ["value"] (spIsCutting) := ⟨(okIsCutting (P := l.prog) (w := w) (mg := mg) (base := base) F16 T D_AreWholes D_AreWithoutDivisor ), PySem.W.mg_of X G a16, k16, b16⟩
  have D_IsRootOf : DefAt l.prog w K mg base 3 "_is_root_of" f17 _ ["measure", "value"] (spIsRootOf) := ⟨(okIsRootOf (P := l.prog) (w := w) (mg := mg) (base := base) F17 T D_AreWholes D_HasWholeRoot ), PySem.W.mg_of X G a17, k17, b17⟩
  have D_Multiplied : DefAt l.prog w K mg base 3 "_multiplied" f18 _ ["measure", "one", "other"] (spTimes) := ⟨(okMultiplied (P := l.prog) (w := w) (mg := mg) (base := base) F18 T D_Reduced ), PySem.W.mg_of X G a18, k18, b18⟩
  have D_LawDrawn : DefAt l.prog w K mg base 3 "_law_drawn" f19 _ ["_law_generator_here", "_law_most"] (spDrawnCut) := ⟨(okLawDrawn (P := l.prog) (w := w) (mg := mg) (base := base) F19 T D_LawRandom D_LawCommon ), PySem.W.mg_of X G a19, k19, b19⟩
  have D_WholeRoot : DefAt l.prog w K mg base 4 "whole_root" f20 _ ["measure"] (spWholeRoot0) := ⟨(okWholeRoot (P := l.prog) (w := w) (mg := mg) (base := base) F20 T D_CheckMeasure ), PySem.W.mg_of X G a20, k20, b20⟩
  have D_CheckCutting : DefAt l.prog w K mg base 4 "check_cutting" f21 _ ["cutting"] (spCheckCut0) := ⟨(okCheckCutting (P := l.prog) (w := w) (mg := mg) (base := base) F21 T D_IsCutting ), PySem.W.mg_of X G a21, k21, b21⟩
  have D_Check : DefAt l.prog w K mg base 4 "_check" f22 _ ["measure", "roots"] (spCheck0) := ⟨(okCheck (P := l.prog) (w := w) (mg := mg) (base := base) F22 T D_CheckMeasure D_IsRootOf ), PySem.W.mg_of X G a22, k22, b22⟩
  have D_MeasureOf : DefAt l.prog w K mg base 5 "measure_of" f23 _ ["cutting"] (spMeasureOf0) := ⟨(okMeasureOf (P := l.prog) (w := w) (mg := mg) (base := base) F23 T D_CheckCutting ), PySem.W.mg_of X G a23, k23, b23⟩
  have D_RootTimes : DefAt l.prog w K mg base 5 "root_times" f24 _ ["measure", "one", "other"] (spTimes) := ⟨(okRootTimes (P := l.prog) (w := w) (mg := mg) (base := base) F24 T D_Check D_Multiplied ), PySem.W.mg_of X G a24, k24, b24⟩
  have D_RootSide : DefAt l.prog w K mg base 5 "root_side" f25 _ ["measure", "root"] (spRootSide) := ⟨(okRootSide (P := l.prog) (w := w) (mg := mg) (base := base) F25 T D_Check D_Side ), PySem.W.mg_of X G a25, k25, b25⟩
  have D_RootFloor : DefAt l.prog w K mg base 5 "root_floor" f26 _ ["measure", "root"] (spRootFloor) := ⟨(okRootFloor (P := l.prog) (w := w) (mg := mg) (base := base) F26 T D_Check D_FloorOfMultiple ), PySem.W.mg_of X G a26, k26, b26⟩
  have D_LawRootRight : DefAt l.prog w K mg base 5 "_law_root_right" f27 _ ["_law_measure_here"] (spRootRight) := ⟨(okLawRootRight (P := l.prog) (w := w) (mg := mg) (base := base) F27 T D_WholeRoot ), PySem.W.mg_of X G a27, k27, b27⟩
  have D_LawGreatRight : DefAt l.prog w K mg base 6 "_law_great_right" f28 _ [] (spGreat) := ⟨(okLawGreatRight (P := l.prog) (w := w) (mg := mg) (base := base) F28 T D_MeasureOf D_RootTimes D_IsCutting D_IsMeasure D_WholeRoot D_RootFloor D_RootSide ), PySem.W.mg_of X G a28, k28, b28⟩
  have D_LawValueRight : DefAt l.prog w K mg base 6 "_law_value_right" f29 _ ["_law_value"] (spFour 100) := ⟨(okLawValueRight (P := l.prog) (w := w) (mg := mg) (base := base) F29 T D_LawIsCutting D_IsCutting D_IsMeasure D_LawRootRight D_MeasureOf D_LawMeasure kb_IsCutting_v kb_MeasureOf_c), PySem.W.mg_of X G a29, k29, b29⟩
  have D_LawNearRight : DefAt l.prog w K mg base 7 "_law_near_right" f30 _ ["_law_value"] (spFour 90) := ⟨(okLawNearRight (P := l.prog) (w := w) (mg := mg) (base := base) F30 T D_LawValueRight D_IsCutting ), PySem.W.mg_of X G a30, k30, b30⟩
  exact (okLaw (P := l.prog) (w := w) (mg := mg) (base := base) F31 T D_LawGenerator D_LawGreatRight D_LawDrawn D_IsCutting D_MeasureOf D_LawValueRight D_LawNearRight )
theorem walk {l : PySem.W.OpenLaw} {q : Program} {loose : List Str} {XP : (Str → Option Value) → Heap → Prop} {YP : World → Heap → Prop} {d : DefRec} {K : Params → PySem.W.Frag} (hn : l.most = some 63) (hdf : d.params.defaults = [])
    (hY : ∀ (w : World) (h : Heap), YP w h → (K w.params).In h)
    (F : ∀ (w : World) (mg : Str → Option Value) (fa : Addr) (h : Heap), (K w.params).In h → h.Ns mainGlobals mg → mg d.name = some (.ref fa) →
      ∃ fd : FuncData, (∀ (s : Shared) (u : Value), BindsTo s fd ⟨[u], []⟩ [("_law_script", u)]) ∧ ∀ base : Heap, (K w.params).In base → base.Ns mainGlobals mg → FnOk l.prog w (K w.params) mg base CX0 8 fa fd ["_law_script"] (Kx.spLaw (K w.params))) :
    PySem.W.WalkO q loose XP YP l.row.toRowW d [] (fun f vs => PySem.call f vs) :=
  L2.walk_of (n := 63) (k := 8) (x := "_law_script") (CX := fun _ => CX0) (sp := fun w => Kx.spLaw (K w.params)) hn (by decide) hdf ⟨rfl, by decide, by decide⟩ hY F (fun _ _ a ns hl _ hS => ⟨a, ns, rfl, hS, hl, fun _ => rfl⟩) fun _ _ _ _ _ z => z
end L07

open PySem PySem.W PyProof.Rows
set_option maxRecDepth 100000 in
set_option maxHeartbeats 0 in
theorem PySem.Challenge.cw_slitsheets_k07_cuttings_judged_holds : PySem.Challenge.rw_slitsheets_k07_cuttings_judged.Holds := by
  w_on; o_law; k_head; (case hw => w_witness2)
  k_fill
  refine L07.walk (l := PySem.Challenge.rw_slitsheets_k07_cuttings_judged) rfl rfl (fun w h Y => PySem.W.kIn_of Y) ?F
  case F =>
    intro w mg fa h KX G hmg
    refine' L07.all_mk KX G hmg ?a0 ?l0 ?c0 ?k0 ?a1 ?l1 ?c1 ?k1 ?a2 ?l2 ?c2 ?k2 ?a3 ?l3 ?c3 ?k3 ?a4 ?l4 ?c4 ?k4 ?a5 ?l5 ?c5 ?k5 ?a6 ?l6 ?c6 ?k6 ?a7 ?l7 ?c7 ?k7 ?a8 ?l8 ?c8 ?k8 ?a9 ?l9 ?c9 ?k9 ?a10 ?l10 ?c10 ?k10 ?a11 ?l11 ?c11 ?k11 ?a12 ?l12 ?c12 ?k12 ?a13 ?l13 ?c13 ?k13 ?a14 ?l14 ?c14 ?k14 ?a15 ?l15 ?c15 ?k15 ?a16 ?l16 ?c16 ?k16 ?a17 ?l17 ?c17 ?k17 ?a18 ?l18 ?c18 ?k18 ?a19 ?l19 ?c19 ?k19 ?a20 ?l20 ?c20 ?k20 ?a21 ?l21 ?c21 ?k21 ?a22 ?l22 ?c22 ?k22 ?a23 ?l23 ?c23 ?k23 ?a24 ?l24 ?c24 ?k24 ?a25 ?l25 ?c25 ?k25 ?a26 ?l26 ?c26 ?k26 ?a27 ?l27 ?c27 ?k27 ?a28 ?l28 ?c28 ?k28 ?a29 ?l29 ?c29 ?k29 ?a30 ?l30 ?c30 ?k30 ?a31 ?l31 ?c31 ?k31 ?z_abs ?z_all ?z_bool ?z_int ?z_isinstance ?z_len ?z_list ?z_max ?z_range ?z_repr ?z_sorted ?z_sum ?z_tuple ?z_gcd ?z_isqrt
    (case a0 => k_is)
    (case l0 => k_is)
    (case c0 => k_is)
    (case k0 => k_is)
    (case a1 => k_is)
    (case l1 => k_is)
    (case c1 => k_is)
    (case k1 => k_is)
    (case a2 => k_is)
    (case l2 => k_is)
    (case c2 => k_is)
    (case k2 => k_is)
    (case a3 => k_is)
    (case l3 => k_is)
    (case c3 => k_is)
    (case k3 => k_is)
    (case a4 => k_is)
    (case l4 => k_is)
    (case c4 => k_is)
    (case k4 => k_is)
    (case a5 => k_is)
    (case l5 => k_is)
    (case c5 => k_is)
    (case k5 => k_is)
    (case a6 => k_is)
    (case l6 => k_is)
    (case c6 => k_is)
    (case k6 => k_is)
    (case a7 => k_is)
    (case l7 => k_is)
    (case c7 => k_is)
    (case k7 => k_is)
    (case a8 => k_is)
    (case l8 => k_is)
    (case c8 => k_is)
    (case k8 => k_is)
    (case a9 => k_is)
    (case l9 => k_is)
    (case c9 => k_is)
    (case k9 => k_is)
    (case a10 => k_is)
    (case l10 => k_is)
    (case c10 => k_is)
    (case k10 => k_is)
    (case a11 => k_is)
    (case l11 => k_is)
    (case c11 => k_is)
    (case k11 => k_is)
    (case a12 => k_is)
    (case l12 => k_is)
    (case c12 => k_is)
    (case k12 => k_is)
    (case a13 => k_is)
    (case l13 => k_is)
    (case c13 => k_is)
    (case k13 => k_is)
    (case a14 => k_is)
    (case l14 => k_is)
    (case c14 => k_is)
    (case k14 => k_is)
    (case a15 => k_is)
    (case l15 => k_is)
    (case c15 => k_is)
    (case k15 => k_is)
    (case a16 => k_is)
    (case l16 => k_is)
    (case c16 => k_is)
    (case k16 => k_is)
    (case a17 => k_is)
    (case l17 => k_is)
    (case c17 => k_is)
    (case k17 => k_is)
    (case a18 => k_is)
    (case l18 => k_is)
    (case c18 => k_is)
    (case k18 => k_is)
    (case a19 => k_is)
    (case l19 => k_is)
    (case c19 => k_is)
    (case k19 => k_is)
    (case a20 => k_is)
    (case l20 => k_is)
    (case c20 => k_is)
    (case k20 => k_is)
    (case a21 => k_is)
    (case l21 => k_is)
    (case c21 => k_is)
    (case k21 => k_is)
    (case a22 => k_is)
    (case l22 => k_is)
    (case c22 => k_is)
    (case k22 => k_is)
    (case a23 => k_is)
    (case l23 => k_is)
    (case c23 => k_is)
    (case k23 => k_is)
    (case a24 => k_is)
    (case l24 => k_is)
    (case c24 => k_is)
    (case k24 => k_is)
    (case a25 => k_is)
    (case l25 => k_is)
    (case c25 => k_is)
    (case k25 => k_is)
    (case a26 => k_is)
    (case l26 => k_is)
    (case c26 => k_is)
    (case k26 => k_is)
    (case a27 => k_is)
    (case l27 => k_is)
    (case c27 => k_is)
    (case k27 => k_is)
    (case a28 => k_is)
    (case l28 => k_is)
    (case c28 => k_is)
    (case k28 => k_is)
    (case a29 => k_is)
    (case l29 => k_is)
    (case c29 => k_is)
    (case k29 => k_is)
    (case a30 => k_is)
    (case l30 => k_is)
    (case c30 => k_is)
    (case k30 => k_is)
    (case a31 => k_is)
    (case l31 => k_is)
    (case c31 => k_is)
    (case k31 => k_is)
    (case z_abs => k_is)
    (case z_all => k_is)
    (case z_bool => k_is)
    (case z_int => k_is)
    (case z_isinstance => k_is)
    (case z_len => k_is)
    (case z_list => k_is)
    (case z_max => k_is)
    (case z_range => k_is)
    (case z_repr => k_is)
    (case z_sorted => k_is)
    (case z_sum => k_is)
    (case z_tuple => k_is)
    (case z_gcd => k_is)
    (case z_isqrt => k_is)
