import PyProof.Rows.All
import Wide.All
import OpenK.AllK
import Wide.FinOn
import PyProof.EqAt
import PyProof.EqKinds
import PyProof.TupleCall
import HandS.ForMost
import HandS.IsInst
import HandS.Gcd
import HandS.Wide
import HandS.WideBits
import HandS.Style
import HandS.ForExc
import Flt.RightSqrt
import HandS.OwnEq
import HandS.TupAny
import PySem.Challenge.RW_slitsheets_k02_whole_root_numbers_made
set_option Elab.async false
set_option linter.all false
set_option maxRecDepth 100000
set_option maxHeartbeats 4000000
set_option exponentiation.threshold 4000
/-! Rules and words that all laws share. -/
namespace Kx
open PySem PySem.Spec PyProof.Rows L2

abbrev SV := L2.St
/-! ### a def of the text under its name -/
structure DefAt (P : Program) (w : World) (K : PySem.W.Frag) (mg : Str → Option Value) (base : Heap) (k : Nat) (x : Str) (f : Addr) (fd : FuncData) (ps : List Str) (sp : Sp) : Prop where
  F : FnOk P w K mg base CX0 k f fd ps sp
  m : mg x = some (.ref f)
  kp : PySem.W.keepIn K (.ref f) = true
  b : Binds K fd ps []
def tD (sp : Sp) (t : TA) : TE := fun σ H Q => t σ H fun vs H1 => sp vs H1 Q E0
def tDK (sp : Sp) (gV : List V → List V) (t : TA) : TE := fun σ H Q => t σ H fun zs H1 => sp (gV zs) H1 Q E0
section
variable {X : Cx} {k j : Nat} {f : Addr} {fd : FuncData} {ps ks : List Str} {sp : Sp} {x : Str} {p pos : Pos} {e : Expr} {es : List Expr} {t tk : TA} {kws : List Keyword}
theorem pe_d (D : DefAt X.prog X.w X.K X.mg X.base k x f fd ps sp) (hr : Room j X.A) (ha : PA X (e :: es) t) (hkj : k ≤ j := by decide) (hg : Gl X x := by rfl) (hdb : (x == ("__debug__" : Str)) = false := by decide)
    (he : starEach (e :: es) X.env = (false, eval e X.env) :: starEach es X.env := by rfl) (hpl : (backTo pos (starEach es X.env)).any (·.1) = false := by rfl) : PE X (.Call (.Name x p) (e :: es) [] pos) (tD sp t) := by
  refine ⟨fun pins s σ H Q I h => ?_⟩
  refine (pe_call (dvs := []) D.F (hr.mono hkj) hg D.m D.kp D.b .nil pass0 ha hdb he hpl).run pins s σ H Q I ?_
  have e : (tCall sp [] E0 t) = tD sp t := by funext a b c; unfold tCall tD; simp only [List.append_nil]
  rw [e]
  exact h
/-- how a call by keywords alone binds -/
structure KB0 (K : PySem.W.Frag) (fd : FuncData) (ps ks : List Str) (g : List Value → List Value) (gV : List V → List V) : Prop where
  to : ∀ (s : Shared) (ws : List Value), ws.length = ks.length → BindsTo s fd ⟨[], ks.zip ws⟩ (ps.zip (g ws))
  rel : ∀ {zs : List V} {ws : List Value}, zs.length = ks.length → Vals zs ws → Vals (gV zs) (g ws)
  ln : ∀ zs : List V, (gV zs).length = ps.length → zs.length = ks.length
/-- f(k = v, ..): keywords alone -/
theorem pe_dk {g : List Value → List Value} {gV : List V → List V} (D : DefAt X.prog X.w X.K X.mg X.base k x f fd ps sp) (hr : Room j X.A) (hb : KB0 X.K fd ps ks g gV) (hkw : PK X kws tk) (hkj : k ≤ j := by decide) (hg : Gl X x := by rfl)
    (hall : (backToKw pos (keywordEach kws X.env)).all (·.1.isSome) = true := by rfl) (hks : (backToKw pos (keywordEach kws X.env)).filterMap (·.1) = ks := by rfl) (hdb : (x == ("__debug__" : Str)) = false := by decide)
    (hpl : ((backTo pos (starEach [] X.env)).any (·.1) || (backToKw pos (keywordEach kws X.env)).any (·.1.isNone)) = false := by rfl) :
    PE X (.Call (.Name x p) [] kws pos) (tDK sp gV tk) := by
  refine ⟨fun pins s σ H Q I h => ?_⟩
  refine wpAny_Call_Name_kw (ld_glob I hg D.m ?_ hdb)
  refine PySem.W.callWith_KW0 (h₀ := X.base) I.ok.mod.kin D.kp hall ?_ hpl
  refine thn (hkw.run pos pins s σ H _ I h) fun ws s2 ⟨zs, H2, I2, rz, q2⟩ => ⟨I2.kIn, ?_⟩
  rw [hks]
  have lz := hb.ln zs (D.F.len _ _ _ _ q2)
  have b := hb.to s2 ws (rz.length.symm.trans lz)
  refine wpAny_call (codeAny_mono (D.F.run X.A X.stack s2 H2 ⟨[], ks.zip ws⟩ (g ws) (gV zs) Q E0 (hr.mono hkj) I2.env0 b (hb.rel lz rz) q2) fun r s' hq => ?_)
  cases r with
  | error e => exact (hq : False).elim
  | ok fl =>
    cases fl with
    | ret u => exact I2.after hq
    | next => exact False.elim hq
    | brk => exact False.elim hq
    | cont => exact False.elim hq
theorem kb_mk {K : PySem.W.Frag} {x qual : Str} {st : Stmt} {f : Addr} {fd : FuncData} {ps ks : List Str} {g : List Value → List Value} {gV : List V → List V} (F : Fun K x qual st f fd)
    (h : ∀ (kV doc pm : Value) (an : Option Addr) (cdv ct : Value) (ws : List Value), ws.length = ks.length → bindArgs (PySem.W.fnOf x qual (defArgs st) (defBody st) (defScope st) .none kV doc pm an cdv ct) ⟨[], ks.zip ws⟩ = pure (ps.zip (g ws)))
    (hr : ∀ {zs : List V} {ws : List Value}, zs.length = ks.length → Vals zs ws → Vals (gV zs) (g ws)) (hl : ∀ zs : List V, (gV zs).length = ps.length → zs.length = ks.length) : KB0 K fd ps ks g gV := by
  obtain ⟨oc, od, kV, doc, pm, an, cdv, ct, osl, rfl, lk, hcd⟩ := F.ex
  exact ⟨fun s ws hw => .of_eq (h kV doc pm an cdv ct ws hw), hr, hl⟩
end

/-! ### numbers -/
/-- a divisor but 0 of at most 9000 bits -/
def DivOk (j : Int) : Prop := j ≠ 0 ∧ j.natAbs.log2 < 9000
def PowOk (i j : Int) : Prop := 0 ≤ j ∧ (Builtin.Int.intBits i : Int) * j ≤ 2 ^ 27
section
variable {X : Cx}
theorem op_fdivX : OpR X (binaryOp .FloorDiv) (rI (fun _ j => DivOk j) fun i j => .int (i.fdiv j)) := opI fun i j _ _ _ _ _ hc q =>
  floordiv_int hc.1 q (.inl (PyProof.noPylong_of_log2 hc.2))
theorem op_mulU : OpR X (binaryOp .Mult) (rI IntMulOk fun i j => .int (i * j)) := opI fun _ _ _ _ _ _ _ hc q => mul_int q hc
/-- ** of numbers whose power has at most 2 ^ 27 bits -/
theorem op_powX : OpR X (binaryOp .Pow) (rI PowOk fun i j => .int (i ^ j.toNat)) := opI fun _ _ _ _ _ _ _ hc q => pow_int hc.1 hc.2 q
/-- math.isqrt -/
def rt (n : Int) : Int := ((Float64.isqrt n.toNat : Nat) : Int)
theorem cr_isqrt : CallR X (.builtin "math.isqrt") (fun vs H Q => ∃ a : Int, vs = [.int a] ∧ 0 ≤ a ∧ a.toNat.log2 < 13000 ∧ Q (.int (rt a)) H) := by
  intro pins s σ H vs us Q I r h
  obtain ⟨a, rfl, h0, h1, q⟩ := h
  obtain ⟨u, rfl, t, rfl⟩ := vals1 r
  exact call_function_meets PySem.W.MGF.kind_isqrt PySem.W.MGF.plain_isqrt PySem.W.MGF.entry_isqrt (PySem.W.MGF.args_isqrt _) (PySem.W.mg_run_isqrt a t (by omega) (by omega) (by omega)).meets ⟨.int _, H, I.tok _, ⟨_, rfl⟩, q⟩
theorem cr_int : CallR X (.type "int") (fun xs H Q => ∃ i, xs = [.int i] ∧ Q (.int i) H) := fun pins s σ H xs us Q I r h => call_int1 pins s σ H xs us Q I r (.inl h)
/-- repr of a number, of True, False, None -/
def flatText : V → Option Str
  | .int i => if i.natAbs.log2 < 1920 then some (toString i) else none
  | .bl b => some (if b then "True" else "False")
  | .non => some "None"
  | _ => none
theorem cr_repr : CallR X (.builtin "repr") (fun vs H Q => ∃ (x : V) (z : Str), vs = [x] ∧ flatText x = some z ∧ Q (.str z) H) := by
  intro pins s σ H vs us Q I r h
  obtain ⟨x, z, rfl, hz, q⟩ := h
  obtain ⟨u, rfl, rx⟩ := vals1 r
  cases x with
  | int i =>
    obtain ⟨t, rfl⟩ := rx
    have hz2 : (if i.natAbs.log2 < 1920 then some (toString i : Str) else Option.none) = some z := hz
    by_cases hl : i.natAbs.log2 < 1920
    · rw [if_pos hl] at hz2
      have hz3 := Option.some.inj hz2
      subst hz3
      exact PySem.P.repr_of_int hl ⟨.str _, H, I.tok _, ⟨_, rfl⟩, q⟩
    · rw [if_neg hl] at hz2
      cases hz2
  | bl b =>
    cases rx
    cases hz
    exact PySem.P.repr_of_bool ⟨.str _, H, I.tok _, ⟨_, rfl⟩, q⟩
  | non =>
    cases rx
    cases hz
    exact PySem.P.repr_of_none ⟨.str _, H, I.tok _, ⟨_, rfl⟩, q⟩
  | str _ => cases hz
  | byt _ => cases hz
  | flt _ => cases hz
  | ref _ => cases hz
  | ty _ => cases hz
end

/-! ### loops, opened by hand -/
section
variable {wi : TI} {g : TG} {tb : TS} {D : Ends} {σ : SV} {H : Hp} {c : TT} {tt : TT} {te : TE} {vs : List Nat}
def ForW (J : It) (g : TG) (tb : TS) (D : Ends) (σ : SV) (H1 : Hp) : Prop := ∃ W : Nat → Nat → SV → Hp → Prop, (∃ m, W 0 m σ H1) ∧ ∀ i m σ H, W i m σ H →
  (J.stop i H ∧ D.nx σ H) ∨ (J.go i H ∧ ∃ N : SV → Hp → Prop, (∀ σ' H', N σ' H' → ∃ m', m' < m ∧ W (i + 1) m' σ' H') ∧ ∀ x H', J.yld i H x H' → g x σ H' fun σ2 H2 => tb { D with nx := N, ct := N, bk := D.nx } σ2 H2)
theorem tFor_eq : tFor wi g tb = fun D σ H => wi σ H fun J H1 => ForW J g tb D σ H1 := rfl
theorem forW_range {n : Nat} {lo : Int} (Pv : Nat → SV → Hp → Prop) (h0 : Pv 0 σ H) (hs : ∀ i σ' H', i < n → Pv i σ' H' → g (.int (lo + i)) σ' H' fun σ2 H2 => tb { D with nx := Pv (i + 1), ct := Pv (i + 1), bk := D.nx } σ2 H2)
    (hd : ∀ σ' H', Pv n σ' H' → D.nx σ' H') : ForW (Itr lo n) g tb D σ H := for_range Pv h0 hs hd
theorem forW_list {K : PySem.W.Frag} {a : Addr} {xs : List V} (Pv : Nat → SV → Hp → Prop) (h0 : Pv 0 σ H) (hl : ∀ i σ H, i ≤ xs.length → Pv i σ H → SqL K H a xs)
    (hs : ∀ i x σ' H', xs[i]? = some x → Pv i σ' H' → g x σ' H' fun σ2 H2 => tb { D with nx := Pv (i + 1), ct := Pv (i + 1), bk := D.nx } σ2 H2) (hd : ∀ σ' H', Pv xs.length σ' H' → D.nx σ' H') : ForW (Itl K a) g tb D σ H := for_list Pv h0 hl hs hd
theorem forW_tup {K : PySem.W.Frag} {a : Addr} {xs : List V} (Pv : Nat → SV → Hp → Prop) (h0 : Pv 0 σ H) (hl : ∀ i σ H, i ≤ xs.length → Pv i σ H → SqT K H a xs)
    (hs : ∀ i x σ' H', xs[i]? = some x → Pv i σ' H' → g x σ' H' fun σ2 H2 => tb { D with nx := Pv (i + 1), ct := Pv (i + 1), bk := D.nx } σ2 H2) (hd : ∀ σ' H', Pv xs.length σ' H' → D.nx σ' H') : ForW (Itt K a) g tb D σ H := for_tup Pv h0 hl hs hd
def WStep (W : Nat → SV → Hp → Prop) (m : Nat) (tb : TS) (D : Ends) (σ : SV) (H1 : Hp) : Prop := ∃ N : SV → Hp → Prop, (∀ σ' H', N σ' H' → ∃ m', m' < m ∧ W m' σ' H') ∧ tb { D with nx := N, ct := N, bk := D.nx } σ H1
theorem whileI (Pv : SV → Hp → Prop) (μ : SV → Hp → Nat) (h0 : Pv σ H) (hs : ∀ σ' H', Pv σ' H' → c σ' H' fun b H1 => if b = true then WStep (fun m σ H => m = μ σ H ∧ Pv σ H) (μ σ' H') tb D σ' H1 else D.nx σ' H1) : tWhile c tb D σ H :=
  ⟨fun m σ H => m = μ σ H ∧ Pv σ H, ⟨_, rfl, h0⟩, by
    rintro m σ1 H1 ⟨rfl, p⟩
    exact hs σ1 H1 p⟩
theorem wstep {Pv : SV → Hp → Prop} {μ : SV → Hp → Nat} {m : Nat} {H1 : Hp} (h : tb { D with nx := fun σ' H' => Pv σ' H' ∧ μ σ' H' < m, ct := fun σ' H' => Pv σ' H' ∧ μ σ' H' < m, bk := D.nx } σ H1) : WStep (fun m σ H => m = μ σ H ∧ Pv σ H) m tb D σ H1 :=
  ⟨_, fun σ' H' z => ⟨_, z.2, rfl, z.1⟩, h⟩
def LcW (J : It) (g : TG) (tt : TT) (te : TE) (vs : List Nat) (D : Addr) (σ : SV) (H1 : Hp) (Q : VK) : Prop := ∃ W : Nat → Nat → Hp → Prop, (∃ m, W 0 m (upd H1 D (.lst []))) ∧ ∀ i m H, W i m H →
  (J.stop i H ∧ Q (.ref D) H) ∨ (J.go i H ∧ ∃ Ny : Hp → Prop, (∀ H', Ny H' → ∃ m', m' < m ∧ W (i + 1) m' H') ∧ ∀ x H', J.yld i H x H' → g x (wipe σ vs) H' fun σ2 H2 => wipe σ2 vs = wipe σ vs ∧ tt σ2 H2 fun b H3 =>
    if b = true then te σ2 H3 fun y H4 => ∃ acc, H4 D = some (.lst acc) ∧ acc.length < sizeLine ∧ Ny (upd H4 D (.lst (acc ++ [y]))) else Ny H3)
theorem tLc_eq : tLc wi g tt te vs = fun σ H Q => wi σ H fun J H1 => ∀ D, H1 D = none → LcW J g tt te vs D σ H1 Q := rfl
section
variable {Dd : Addr} {Q : VK}
theorem lcW_range {n : Nat} {lo : Int} (Pv : Nat → Hp → Prop) (h0 : Pv 0 (upd H Dd (.lst [])))
    (hs : ∀ i H, i < n → Pv i H → g (.int (lo + i)) (wipe σ vs) H fun σ2 H2 => wipe σ2 vs = wipe σ vs ∧ tt σ2 H2 fun b H3 =>
      if b = true then te σ2 H3 fun y H4 => ∃ acc, H4 Dd = some (.lst acc) ∧ acc.length < sizeLine ∧ Pv (i + 1) (upd H4 Dd (.lst (acc ++ [y]))) else Pv (i + 1) H3) (hd : ∀ H, Pv n H → Q (.ref Dd) H) : LcW (Itr lo n) g tt te vs Dd σ H Q := lc_range Pv h0 hs hd
theorem lcW_list {K : PySem.W.Frag} {a : Addr} {xs : List V} (Pv : Nat → Hp → Prop) (h0 : Pv 0 (upd H Dd (.lst []))) (hl : ∀ i H, i ≤ xs.length → Pv i H → SqL K H a xs)
    (hs : ∀ i x H, xs[i]? = some x → Pv i H → g x (wipe σ vs) H fun σ2 H2 => wipe σ2 vs = wipe σ vs ∧ tt σ2 H2 fun b H3 =>
      if b = true then te σ2 H3 fun y H4 => ∃ acc, H4 Dd = some (.lst acc) ∧ acc.length < sizeLine ∧ Pv (i + 1) (upd H4 Dd (.lst (acc ++ [y]))) else Pv (i + 1) H3) (hd : ∀ H, Pv xs.length H → Q (.ref Dd) H) : LcW (Itl K a) g tt te vs Dd σ H Q := lc_list Pv h0 hl hs hd
theorem lcW_tup {K : PySem.W.Frag} {a : Addr} {xs : List V} (Pv : Nat → Hp → Prop) (h0 : Pv 0 (upd H Dd (.lst []))) (hl : ∀ i H, i ≤ xs.length → Pv i H → SqT K H a xs)
    (hs : ∀ i x H, xs[i]? = some x → Pv i H → g x (wipe σ vs) H fun σ2 H2 => wipe σ2 vs = wipe σ vs ∧ tt σ2 H2 fun b H3 =>
      if b = true then te σ2 H3 fun y H4 => ∃ acc, H4 Dd = some (.lst acc) ∧ acc.length < sizeLine ∧ Pv (i + 1) (upd H4 Dd (.lst (acc ++ [y]))) else Pv (i + 1) H3) (hd : ∀ H, Pv xs.length H → Q (.ref Dd) H) : LcW (Itt K a) g tt te vs Dd σ H Q := lc_tup Pv h0 hl hs hd
end
end

/-! ### items of what is tracked -/
section
variable {X : Cx}
theorem ixL : IxR X (fun x y H Q => ∃ p xs i v, x = .ref p ∧ y = .int i ∧ H p = some (.lst xs) ∧ atI xs i = some v ∧ Q v H) := by
  intro value slice pins s σ H x y v u Q I rx ry h hs
  obtain ⟨p, xs, i, z, e1, e2, h1, h2, q⟩ := h
  exact ix_list value slice pins s σ H x y v u Q I rx ry ⟨p, xs, i, z, e1, e2, SqL.of h1, h2, q⟩ hs
theorem ixT : IxR X (fun x y H Q => ∃ p xs i v, x = .ref p ∧ y = .int i ∧ H p = some (.tup xs) ∧ atI xs i = some v ∧ Q v H) := by
  intro value slice pins s σ H x y v u Q I rx ry h hs
  obtain ⟨p, xs, i, z, e1, e2, h1, h2, q⟩ := h
  exact ix_tup value slice pins s σ H x y v u Q I rx ry ⟨p, xs, i, z, e1, e2, SqT.of h1, h2, q⟩ hs
end
/-- a, b, .. = a tracked tuple of n items -/
def gT (n : Nat) (t : TGs) : TG := fun v σ H Q => ∃ a xs, v = .ref a ∧ H a = some (.tup xs) ∧ xs.length = n ∧ t xs σ H Q
theorem pg_tupT {X : Cx} {es : List Expr} {k : Nat} {t : TGs} {pos : Pos} (n : Nat) (hc : X.calm = true) (h : PGs X es t) (hn : (assignEach es X.env).length = n := by rfl) (hst : (assignEach es X.env).findIdx? (·.1) = none := by rfl) : PG X (.Tuple es k pos) (gT n t) := by
  refine ⟨fun pins s σ H v u Q I r hw => ?_⟩
  obtain ⟨a, xs, e1, hq, hl, hw⟩ := hw
  exact (pg_tup hc h hn hst).run pins s σ H v u Q I r ⟨a, xs, e1, SqT.of hq, hl, hw⟩
/-- a, b, .. = a tracked list of n items -/
def gL (n : Nat) (t : TGs) : TG := fun v σ H Q => ∃ a xs, v = .ref a ∧ H a = some (.lst xs) ∧ xs.length = n ∧ t xs σ H Q
theorem pg_lstT {X : Cx} {es : List Expr} {k : Nat} {t : TGs} {pos : Pos} (n : Nat) (hc : X.calm = true) (h : PGs X es t) (hn : (assignEach es X.env).length = n := by rfl) (hst : (assignEach es X.env).findIdx? (·.1) = none := by rfl) : PG X (.Tuple es k pos) (gL n t) := by
  refine ⟨fun pins s σ H v u Q I r hw => ?_⟩
  obtain ⟨a, xs, e1, hq, hl, hw⟩ := hw
  exact (pg_lst hc h hn hst).run pins s σ H v u Q I r ⟨a, xs, e1, SqL.of hq, hl, hw⟩
theorem lenL {X : Cx} : CallR X (.builtin "len") (fun xs H Q => ∃ p ys, xs = [.ref p] ∧ H p = some (.lst ys) ∧ Q (.int ys.length) H) := by
  intro pins s σ H xs us Q I r h
  obtain ⟨p, ys, e, h1, q⟩ := h
  exact call_len_seq pins s σ H xs us Q I r ⟨p, ys, e, .inl (SqL.of h1), q⟩
theorem lenT {X : Cx} : CallR X (.builtin "len") (fun xs H Q => ∃ p ys, xs = [.ref p] ∧ H p = some (.tup ys) ∧ Q (.int ys.length) H) := by
  intro pins s σ H xs us Q I r h
  obtain ⟨p, ys, e, h1, q⟩ := h
  exact call_len_seq pins s σ H xs us Q I r ⟨p, ys, e, .inr (SqT.of h1), q⟩
theorem cxK {CX : CXT} {P : Program} {w : World} {K : PySem.W.Frag} {mg : Str → Option Value} {base : Heap} {N : List Str} {qual : Str} {sc : Scope} {f : Addr} {cd : Value} {A : Around} {outer : List Env} {s : Shared} {H : Hp} {E : XK} : (cxOf CX P w K mg base N qual sc f cd A outer s H E).K = K := rfl
theorem atI_0 {α : Type} {x : α} {l : List α} : atI (x :: l) 0 = some x := atI_nat (j := 0) rfl
theorem atI_1 {α : Type} {x y : α} {l : List α} : atI (x :: y :: l) 1 = some y := atI_nat (j := 1) rfl
theorem atI_2 {α : Type} {x y z : α} {l : List α} : atI (x :: y :: z :: l) 2 = some z := atI_nat (j := 2) rfl
theorem atI_3 {α : Type} {x y z u : α} {l : List α} : atI (x :: y :: z :: u :: l) 3 = some u := atI_nat (j := 3) rfl
theorem ixN_30 : ixN 3 0 = some 0 := by decide
theorem ixN_31 : ixN 3 1 = some 1 := by decide
theorem ixN_32 : ixN 3 2 = some 2 := by decide

/-! ### sizes -/
theorem cmw {i j : Int} (h1 : -(2 ^ 2500) < i) (h2 : i < 2 ^ 2500) (h3 : -(2 ^ 2500) < j) (h4 : j < 2 ^ 2500) : IntMulOk i j :=
  CMulW.ok (wide_mul (a := 2500) (b := 2500) (by omega) (by omega) (by decide) (by decide) (by decide))
theorem cmr {i j : Int} (h1 : -(2 ^ 64) < j) (h2 : j < 2 ^ 64) : IntMulOk i j := CMul.ok (.inr ⟨h1, h2⟩)
theorem cml {i j : Int} (h1 : -(2 ^ 64) < i) (h2 : i < 2 ^ 64) : IntMulOk i j := CMul.ok (.inl ⟨h1, h2⟩)
theorem cpow {i : Int} {j : Int} (h0 : 0 ≤ j) (h1 : j ≤ 1000) (h2 : -(2 ^ 2500) < i) (h3 : i < 2 ^ 2500) : PowOk i j := by
  have h := PyProof.Rows.intBits_le (show i.natAbs < 2 ^ 2500 by omega)
  refine ⟨h0, ?_⟩
  have h4 : (Builtin.Int.intBits i : Int) ≤ 2500 := by omega
  have h5 := Int.mul_le_mul h4 h1 h0 (by decide)
  exact Int.le_trans h5 (by decide)
theorem cdiv {j : Int} (h0 : j ≠ 0) (h1 : -(2 ^ 2500) < j) (h2 : j < 2 ^ 2500) : DivOk j :=
  ⟨h0, Nat.lt_of_lt_of_le (PySem.Flt.log2_lt_of (by decide) (show j.natAbs < 2 ^ 2500 by omega)) (by decide)⟩

theorem cut1 (xs : List V) : cutV xs none (some 1) = xs.take 1 := by
  unfold cutV
  cases xs with
  | nil => rfl
  | cons x l =>
    have e : HT.sIx (x :: l).length (x :: l).length (some 1) = 1 := by simp [HT.sIx]
    have e2 : HT.sIx (x :: l).length 0 (Option.none) = 0 := rfl
    rw [e, e2]
    rfl
/-! ### the draws -/
def Keep (g : Addr) (H H' : Hp) : Prop := ∀ b o, b ≠ g → H b = some o → H' b = some o
theorem Keep.refl (g : Addr) (H : Hp) : Keep g H H := fun _ _ _ h => h
theorem Keep.trans {g : Addr} {H H1 H2 : Hp} (a : Keep g H H1) (b : Keep g H1 H2) : Keep g H H2 := fun c o n h => b c o n (a c o n h)
theorem Keep.of {g : Addr} {H H' : Hp} (a : Same H H') : Keep g H H' := fun c o _ h => a c o h
theorem Same.upd {H : Hp} {a : Addr} {o : HO} (h : H a = none) : Same H (upd H a o) := fun b u e => by
  rw [upd_ne (ne_of_none e h)]
  exact e
theorem Same.upd2 {H H1 : Hp} {a : Addr} {o : HO} (s : Same H H1) (h : H a = none) : Same H (L2.upd H1 a o) := fun b u e => by
  rw [upd_ne (ne_of_none e h)]
  exact s b u e
def GenAt (H : Hp) (g : Addr) (k : Nat) : Prop := ∃ a b c : Int, H g = some (.lst [.int a, .int b, .int c]) ∧ 0 ≤ a ∧ a < 2 ^ 2000 ∧ 0 ≤ b ∧ b < 2 ^ 32 ∧ 0 ≤ c ∧ c ≤ k
theorem GenAt.mono {H : Hp} {g : Addr} {j k : Nat} (h : GenAt H g j) (l : j ≤ k) : GenAt H g k := by
  obtain ⟨a, b, c, e, h1, h2, h3, h4, h5, h6⟩ := h
  exact ⟨a, b, c, e, h1, h2, h3, h4, h5, by omega⟩
theorem GenAt.same {H H' : Hp} {g : Addr} {k : Nat} (h : GenAt H g k) (s : Same H H') : GenAt H' g k := by
  obtain ⟨a, b, c, e, r⟩ := h
  exact ⟨a, b, c, s _ _ e, r⟩
def spHash : Sp := fun vs H Q _ => ∃ a i : Int, vs = [.int a, .int i] ∧ 0 ≤ a ∧ a < 2 ^ 32 ∧ 0 ≤ i ∧ i < 2 ^ 60 ∧ ∀ h : Int, 0 ≤ h → h < 2147483647 → Q (.int h) H
def spRandom : Sp := fun vs H Q _ => ∃ (g : Addr) (n : Int) (k : Nat), vs = [.ref g, .int n] ∧ GenAt H g k ∧ k ≤ 2 ^ 40 ∧ 1 ≤ n ∧ n < 2 ^ 300 ∧ ∀ (r : Int) (H' : Hp), 0 ≤ r → r < n → GenAt H' g (k + 20) → Keep g H H' → Q (.int r) H'
def spCell (K : PySem.W.Frag) : Sp := fun vs H Q _ => ∃ (a : Addr) (ns : List Int) (i : Int), vs = [.ref a, .int i] ∧ SqL K H a (ns.map V.int) ∧ 0 ≤ i ∧ i < 100 ∧ ∀ (r : Int) (H' : Hp), Same H H' → Q (.int r) H'
def spGen (K : PySem.W.Frag) : Sp := fun vs H Q _ => ∃ (a : Addr) (ns : List Int) (i : Int), vs = [.ref a, .int i] ∧ SqL K H a (ns.map V.int) ∧ 0 ≤ i ∧ i < 100 ∧ ∀ (g : Addr) (H' : Hp), H g = none → Same H H' → GenAt H' g 100000 → Q (.ref g) H'
/-- a def of two ints that hands back an int reckoned by F -/
def gcdI (a b : Int) : Int := ((Nat.gcd a.natAbs b.natAbs : Nat) : Int)
def spCommon : Sp := fun vs H Q _ => ∃ a b : Int, vs = [.int a, .int b] ∧ Q (.int (gcdI a b)) H
def spRoot : Sp := fun vs H Q _ => ∃ n : Int, vs = [.int n] ∧ 0 ≤ n ∧ n < 2 ^ 2000 ∧ ∀ H', Same H H' → Q (.int (rt n)) H'

/-- the number in a slot, for a measure -/
def slotN (σ : SV) (i : Nat) : Nat := match σ[i]? with
  | some (some (.int v)) => v.toNat
  | _ => 0
theorem gcdI_step {x y : Int} (hx : 0 ≤ x) (hy : 0 < y) : gcdI y (x % y) = gcdI x y := by
  unfold gcdI
  have e : (x % y).natAbs = x.natAbs % y.natAbs := by
    have h1 := Int.emod_nonneg x (show y ≠ 0 by omega)
    have h2 : ((x.natAbs % y.natAbs : Nat) : Int) = x % y := by
      rw [Int.natCast_emod, Int.natAbs_of_nonneg hx, Int.natAbs_of_nonneg (by omega)]
    omega
  rw [e, Nat.gcd_comm, ← Nat.gcd_rec, Nat.gcd_comm]
theorem gcdI_zero {x : Int} (hx : 0 ≤ x) : gcdI x 0 = x := by
  unfold gcdI
  rw [show (0 : Int).natAbs = 0 from rfl, Nat.gcd_zero_right]
  omega
theorem gcdI_abs (a b : Int) : gcdI (if a < 0 then -a else a) (if b < 0 then -b else b) = gcdI a b := by
  unfold gcdI
  have h : ∀ z : Int, (if z < 0 then -z else z).natAbs = z.natAbs := fun z => by split <;> omega
  rw [h, h]
theorem rt_spec {n : Int} (h : 0 ≤ n) : 0 ≤ rt n ∧ rt n * rt n ≤ n ∧ n < (rt n + 1) * (rt n + 1) := by
  obtain ⟨m, rfl⟩ := Int.eq_ofNat_of_zero_le h
  have q := PySem.Float64.isqrt_spec m
  unfold rt
  rw [Int.toNat_natCast]
  refine ⟨Int.natCast_nonneg _, ?_, ?_⟩
  · exact_mod_cast q.1
  · exact_mod_cast q.2
theorem sq_mono {x y : Int} (h : 0 ≤ x) (h2 : x ≤ y) : x * x ≤ y * y := Int.mul_le_mul h2 h2 h (by omega)
theorem rt_unique {n r : Int} (h : 0 ≤ n) (h0 : 0 ≤ r) (h1 : r * r ≤ n) (h2 : n < (r + 1) * (r + 1)) : r = rt n := by
  obtain ⟨s0, s1, s2⟩ := rt_spec h
  have a : ¬ r + 1 ≤ rt n := fun z => by
    have q := sq_mono (by omega) z
    omega
  have b : ¬ rt n + 1 ≤ r := fun z => by
    have q := sq_mono (by omega) z
    omega
  omega
theorem lg {n : Int} (h : n < 2 ^ 3900) : n.toNat.log2 < 13000 := by
  by_cases h0 : n.toNat = 0
  · rw [h0]; decide
  · have h2 : n.toNat < 2 ^ 3900 := by omega
    have := (Nat.log2_lt h0).mpr h2
    omega
theorem rGcd_eq : rGcd = fun vs H Q => ∃ a b : Int, vs = [.int a, .int b] ∧ Q (.int (gcdI a b)) H := rfl
theorem scal_ii {a b : Int} : scal (.int a) (.int b) = true := rfl
theorem scal_bb {a b : Bool} : scal (.bl a) (.bl b) = true := rfl
theorem scal_ss {a b : Str} : scal (.str a) (.str b) = true := rfl
end Kx

set_option Elab.async false
set_option linter.all false
set_option maxRecDepth 100000
set_option maxHeartbeats 4000000
set_option exponentiation.threshold 4000
/-! Root numbers as plain functions. -/
namespace Kx
open PySem

def Sq (D : Int) : Prop := rt D * rt D = D
instance (D : Int) : Decidable (Sq D) := by unfold Sq; infer_instance
def sgn (x : Int) : Int := if x = 0 then 0 else if 0 < x then 1 else -1
def sideF (D x y : Int) : Int :=
  if x = 0 ∧ y = 0 then 0 else if 0 ≤ x ∧ 0 ≤ y then 1 else if x ≤ 0 ∧ y ≤ 0 then -1 else
  if x * x - D * y * y = 0 then 0 else if (decide (0 < x * x - D * y * y) = decide (0 < x)) then 1 else -1
def sideP (D x y : Int) : Int := if D * y * y < x * x then sgn x else sgn y
theorem sq_of {D x y : Int} (hD : 0 ≤ D) (hy : y ≠ 0) (h : x * x = D * y * y) : Sq D := by
  have hyn : 0 < y.natAbs := Int.natAbs_pos.mpr hy
  obtain ⟨m, rfl⟩ := Int.eq_ofNat_of_zero_le hD
  have hn : x.natAbs * x.natAbs = m * (y.natAbs * y.natAbs) := by
    have e := congrArg Int.natAbs h
    rw [Int.natAbs_mul, Int.natAbs_mul, Int.natAbs_mul, Int.natAbs_natCast, Nat.mul_assoc] at e
    exact e
  have hd : y.natAbs ∣ x.natAbs := by
    have h1 : y.natAbs ^ 2 ∣ x.natAbs ^ 2 := ⟨m, by rw [Nat.pow_two, Nat.pow_two, hn]; exact Nat.mul_comm _ _⟩
    exact (Nat.pow_dvd_pow_iff (by decide)).mp h1
  obtain ⟨k, hk⟩ := hd
  have hm : k * k = m := by
    rw [hk] at hn
    have e : y.natAbs * y.natAbs * (k * k) = y.natAbs * y.natAbs * m := by
      rw [Nat.mul_comm (y.natAbs * y.natAbs) m, ← hn]
      simp only [Nat.mul_assoc, Nat.mul_left_comm]
    exact Nat.eq_of_mul_eq_mul_left (Nat.mul_pos hyn hyn) e
  have e : ((k : Nat) : Int) = rt (m : Int) := by
    refine rt_unique (Int.natCast_nonneg _) (Int.natCast_nonneg _) ?_ ?_
    · rw [← hm]
      exact Int.le_of_eq (Int.natCast_mul k k).symm
    · rw [← hm]
      have : (((k * k : Nat)) : Int) = (k : Int) * (k : Int) := Int.natCast_mul k k
      rw [this]
      have h2 : ((k : Int) + 1) * ((k : Int) + 1) = (k : Int) * k + 2 * k + 1 := by grind
      omega
  unfold Sq
  rw [← e, ← hm]
  exact (Int.natCast_mul k k).symm
theorem dyy_nn {D y : Int} (hD : 0 ≤ D) : 0 ≤ D * y * y := by
  rw [Int.mul_assoc]
  exact Int.mul_nonneg hD (by
    rcases Int.le_total 0 y with h | h
    · exact Int.mul_nonneg h h
    · exact Int.mul_nonneg_of_nonpos_of_nonpos h h)
theorem dyy_pos {D y : Int} (hD : 0 < D) (hy : y ≠ 0) : 0 < D * y * y := by
  have h1 : 0 < y * y := by
    rcases Int.lt_or_gt_of_ne hy with h | h
    · exact Int.mul_pos_of_neg_of_neg h h
    · exact Int.mul_pos h h
  rw [Int.mul_assoc]
  exact Int.mul_pos hD h1
theorem xx_pos {x : Int} (hx : x ≠ 0) : 0 < x * x := by
  rcases Int.lt_or_gt_of_ne hx with h | h
  · exact Int.mul_pos_of_neg_of_neg h h
  · exact Int.mul_pos h h
theorem side_eq {D x y : Int} (hD : 0 < D) (h : y = 0 ∨ ¬ Sq D) : sideP D x y = sideF D x y := by
  have hne : y ≠ 0 → x * x ≠ D * y * y := fun hy e => by
    rcases h with h | h
    · exact hy h
    · exact h (sq_of (by omega) hy e)
  have f1 : x = 0 → x * x = 0 := fun e => by rw [e]; rfl
  have f2 : x ≠ 0 → 0 < x * x := xx_pos
  have f3 : y = 0 → D * y * y = 0 := fun e => by rw [e, Int.mul_zero]
  have f4 : y ≠ 0 → 0 < D * y * y := dyy_pos hD
  unfold sideP sideF sgn
  simp only [decide_eq_decide]
  generalize x * x = u at *
  generalize D * y * y = v at *
  repeat' split
  all_goals omega
/-- the floor of y times the root -/
def flM (D y : Int) : Int := if 0 ≤ y then rt (D * y * y) else -rt (D * y * y - 1) - 1
theorem floor_low {D y z : Int} (hD : 0 < D) (h : -flM D y ≤ z) : 0 ≤ sideF D z y := by
  unfold flM at h
  unfold sideF
  by_cases hy : 0 ≤ y
  · rw [if_pos hy] at h
    obtain ⟨s0, s1, s2⟩ := rt_spec (dyy_nn (y := y) (Int.le_of_lt hD))
    by_cases hz : 0 ≤ z
    · by_cases h0 : z = 0 ∧ y = 0
      · rw [if_pos h0]; decide
      · rw [if_neg h0, if_pos ⟨hz, hy⟩]; decide
    · have h1 : z * z ≤ D * y * y := by
        have := sq_mono (x := -z) (y := rt (D * y * y)) (by omega) (by omega)
        have e : -z * -z = z * z := by grind
        omega
      have hy0 : y ≠ 0 := fun e => by
        subst e
        have h2 : 0 < z * z := xx_pos (by omega)
        rw [Int.mul_zero] at h1
        omega
      rw [if_neg (by omega), if_neg (by omega), if_neg (by omega)]
      by_cases h4 : z * z - D * y * y = 0
      · rw [if_pos h4]; decide
      · rw [if_neg h4, if_pos (by rw [decide_eq_false (by omega), decide_eq_false (by omega)])]; decide
  · rw [if_neg hy] at h
    have hp := dyy_pos hD (show y ≠ 0 by omega)
    obtain ⟨s0, s1, s2⟩ := rt_spec (show 0 ≤ D * y * y - 1 by omega)
    have hz : 0 < z := by omega
    have h1 : D * y * y ≤ z * z := by
      have := sq_mono (x := rt (D * y * y - 1) + 1) (y := z) (by omega) (by omega)
      omega
    rw [if_neg (by omega), if_neg (by omega), if_neg (by omega)]
    by_cases h4 : z * z - D * y * y = 0
    · rw [if_pos h4]; decide
    · rw [if_neg h4, if_pos (by rw [decide_eq_true (by omega), decide_eq_true hz])]; decide
theorem floor_high {D y z : Int} (hD : 0 < D) (h : z ≤ -1 - flM D y) : sideF D z y < 0 := by
  unfold flM at h
  unfold sideF
  by_cases hy : 0 ≤ y
  · rw [if_pos hy] at h
    obtain ⟨s0, s1, s2⟩ := rt_spec (dyy_nn (y := y) (Int.le_of_lt hD))
    by_cases hy0 : y = 0
    · rw [if_neg (by omega), if_neg (by omega), if_pos (by omega)]; decide
    · have h1 : D * y * y < z * z := by
        have := sq_mono (x := rt (D * y * y) + 1) (y := -z) (by omega) (by omega)
        have e : -z * -z = z * z := by grind
        omega
      rw [if_neg (by omega), if_neg (by omega), if_neg (by omega), if_neg (by omega), if_neg (by rw [decide_eq_true (show 0 < z * z - D * y * y by omega), decide_eq_false (by omega)]; decide)]
      decide
  · rw [if_neg hy] at h
    have hp := dyy_pos hD (show y ≠ 0 by omega)
    obtain ⟨s0, s1, s2⟩ := rt_spec (show 0 ≤ D * y * y - 1 by omega)
    by_cases hz : z ≤ 0
    · rw [if_neg (by omega), if_neg (by omega), if_pos (by omega)]; decide
    · have h1 : z * z < D * y * y := by
        have := sq_mono (x := z) (y := rt (D * y * y - 1)) (by omega) (by omega)
        omega
      rw [if_neg (by omega), if_neg (by omega), if_neg (by omega), if_neg (by omega), if_neg (by rw [decide_eq_false (show ¬ 0 < z * z - D * y * y by omega), decide_eq_true (by omega)]; decide)]
      decide
/-! ### least terms -/
def lsg (x y b : Int) : Int := if b < 0 then 0 - gcdI (gcdI x y) b else gcdI (gcdI x y) b
def red (x y b : Int) : Int × Int × Int := (x.fdiv (lsg x y b), y.fdiv (lsg x y b), b.fdiv (lsg x y b))
def least (D x y b : Int) : Int × Int × Int := if rt D * rt D = D then red (x + y * rt D) 0 b else red x y b
theorem gcdI_nn (a b : Int) : 0 ≤ gcdI a b := Int.natCast_nonneg _
theorem gcdI_dvdl (a b : Int) : gcdI a b ∣ a := Int.gcd_dvd_left a b
theorem gcdI_dvdr (a b : Int) : gcdI a b ∣ b := Int.gcd_dvd_right a b
theorem gcdI_pos {a b : Int} (h : b ≠ 0) : 0 < gcdI a b := by
  unfold gcdI
  have := Nat.gcd_pos_of_pos_right a.natAbs (Int.natAbs_pos.mpr h)
  omega
theorem gcdI_le {a b : Int} (h : b ≠ 0) : gcdI a b ≤ b.natAbs := by
  unfold gcdI
  have := Nat.gcd_le_right a.natAbs (Int.natAbs_pos.mpr h)
  omega
theorem gcdI_mul (k a b : Int) : gcdI (k * a) (k * b) = k.natAbs * gcdI a b := by
  have h := Int.gcd_mul_left k a b
  unfold gcdI
  have h2 : ((k * a).natAbs.gcd (k * b).natAbs) = k.natAbs * (a.natAbs.gcd b.natAbs) := h
  rw [h2, Int.natCast_mul]
theorem lsg_ne {x y b : Int} (h : b ≠ 0) : lsg x y b ≠ 0 := by
  have := gcdI_pos (a := gcdI x y) h
  unfold lsg
  split <;> omega
theorem lsg_size {x y b : Int} (h : b ≠ 0) : (lsg x y b).natAbs ≤ b.natAbs := by
  have h1 := gcdI_le (a := gcdI x y) h
  have h2 := gcdI_nn (gcdI x y) b
  unfold lsg
  split <;> omega
theorem lsg_abs {x y b : Int} : ((lsg x y b).natAbs : Int) = gcdI (gcdI x y) b := by
  have h2 := gcdI_nn (gcdI x y) b
  unfold lsg
  split <;> omega
/-- the three numbers as multiples -/
theorem red_mul {x y b : Int} (h : b ≠ 0) : x = lsg x y b * (red x y b).1 ∧ y = lsg x y b * (red x y b).2.1 ∧ b = lsg x y b * (red x y b).2.2 := by
  have hs := lsg_ne (x := x) (y := y) h
  have hd : ∀ z : Int, gcdI (gcdI x y) b ∣ z → z = lsg x y b * (z.fdiv (lsg x y b)) := fun z hz => by
    have h1 : lsg x y b ∣ z := by
      unfold lsg
      split
      · rw [Int.zero_sub]; exact Int.neg_dvd.mpr hz
      · exact hz
    obtain ⟨q, e⟩ := h1
    have e2 : z.fdiv (lsg x y b) = q := by
      have := Int.mul_fdiv_cancel_left (a := lsg x y b) q hs
      rw [← e] at this
      exact this
    rw [e2]; exact e
  exact ⟨hd x (Int.dvd_trans (gcdI_dvdl _ _) (gcdI_dvdl _ _)), hd y (Int.dvd_trans (gcdI_dvdl _ _) (gcdI_dvdr _ _)), hd b (gcdI_dvdr _ _)⟩
theorem gcd3_mul (k a b c : Int) : gcdI (gcdI (k * a) (k * b)) (k * c) = k.natAbs * gcdI (gcdI a b) c := by
  rw [gcdI_mul]
  have : gcdI ((k.natAbs : Int) * gcdI a b) (k * c) = gcdI (k * gcdI a b) (k * c) := by
    unfold gcdI
    rw [Int.natAbs_mul, Int.natAbs_mul k, Int.natAbs_natCast, Int.natAbs_mul k]
  rw [this, gcdI_mul]
theorem red_gcd {x y b : Int} (h : b ≠ 0) : gcdI (gcdI (red x y b).1 (red x y b).2.1) (red x y b).2.2 = 1 := by
  obtain ⟨e1, e2, e3⟩ := red_mul (x := x) (y := y) h
  have hp := gcdI_pos (a := gcdI x y) h
  have hg : gcdI (gcdI x y) b = (lsg x y b).natAbs * gcdI (gcdI (red x y b).1 (red x y b).2.1) (red x y b).2.2 := by
    rw [← gcd3_mul, ← e1, ← e2, ← e3]
  rw [lsg_abs] at hg
  have h2 : gcdI (gcdI x y) b * 1 = gcdI (gcdI x y) b * gcdI (gcdI (red x y b).1 (red x y b).2.1) (red x y b).2.2 := by
    rw [Int.mul_one]; exact hg
  exact (Int.eq_of_mul_eq_mul_left (by omega) h2).symm
theorem red_below {x y b : Int} (h : b ≠ 0) : 1 ≤ (red x y b).2.2 := by
  obtain ⟨_, _, e3⟩ := red_mul (x := x) (y := y) h
  have hs := lsg_ne (x := x) (y := y) h
  have hp := gcdI_pos (a := gcdI x y) h
  generalize (red x y b).2.2 = q at *
  by_cases hb : b < 0
  · have hl : lsg x y b < 0 := by unfold lsg; rw [if_pos hb]; omega
    by_cases hq : 1 ≤ q
    · exact hq
    · have := Int.mul_nonneg_of_nonpos_of_nonpos (Int.le_of_lt hl) (show q ≤ 0 by omega)
      omega
  · have hl : 0 < lsg x y b := by unfold lsg; rw [if_neg hb]; omega
    by_cases hq : 1 ≤ q
    · exact hq
    · have := Int.mul_nonpos_of_nonneg_of_nonpos (Int.le_of_lt hl) (show q ≤ 0 by omega)
      omega
theorem fdiv_size {z s q : Int} (hs : s ≠ 0) (e : z = s * q) : q.natAbs ≤ z.natAbs := by
  rw [e, Int.natAbs_mul]
  exact Nat.le_mul_of_pos_left _ (Int.natAbs_pos.mpr hs)
theorem red_size {x y b : Int} (h : b ≠ 0) : (red x y b).1.natAbs ≤ x.natAbs ∧ (red x y b).2.1.natAbs ≤ y.natAbs ∧ (red x y b).2.2.natAbs ≤ b.natAbs := by
  obtain ⟨e1, e2, e3⟩ := red_mul (x := x) (y := y) h
  have hs := lsg_ne (x := x) (y := y) h
  exact ⟨fdiv_size hs e1, fdiv_size hs e2, fdiv_size hs e3⟩
/-- what a triple needs to be the one: unique -/
theorem red_unique {x y b X Y B s : Int} (hs : s ≠ 0) (hB : 1 ≤ B) (hg : gcdI (gcdI X Y) B = 1) (e1 : x = s * X) (e2 : y = s * Y) (e3 : b = s * B) : red x y b = (X, Y, B) := by
  have hl : lsg x y b = s := by
    have hgc : gcdI (gcdI x y) b = s.natAbs := by rw [e1, e2, e3, gcd3_mul, hg, Int.mul_one]
    unfold lsg
    rw [hgc]
    by_cases h : s < 0
    · have : b < 0 := by rw [e3]; exact Int.mul_neg_of_neg_of_pos h (by omega)
      rw [if_pos this]; omega
    · have : ¬ b < 0 := by
        have := Int.mul_nonneg (show 0 ≤ s by omega) (show 0 ≤ B by omega)
        rw [e3]; omega
      rw [if_neg this]; omega
  unfold red
  rw [hl, e1, e2, e3, Int.mul_fdiv_cancel_left _ hs, Int.mul_fdiv_cancel_left _ hs, Int.mul_fdiv_cancel_left _ hs]
theorem red_scale {x y b k : Int} (hk : k ≠ 0) (hb : b ≠ 0) : red (k * x) (k * y) (k * b) = red x y b := by
  obtain ⟨e1, e2, e3⟩ := red_mul (x := x) (y := y) hb
  refine red_unique (s := k * lsg x y b) (Int.mul_ne_zero hk (lsg_ne hb)) (red_below hb) (red_gcd hb) ?_ ?_ ?_
  · rw [Int.mul_assoc]; exact congrArg (k * ·) e1
  · rw [Int.mul_assoc]; exact congrArg (k * ·) e2
  · rw [Int.mul_assoc]; exact congrArg (k * ·) e3
theorem least_scale {D x y b k : Int} (hk : k ≠ 0) (hb : b ≠ 0) : least D (k * x) (k * y) (k * b) = least D x y b := by
  unfold least
  split
  · rw [show k * x + k * y * rt D = k * (x + y * rt D) by grind]
    have := red_scale (x := x + y * rt D) (y := 0) hk hb
    rwa [Int.mul_zero] at this
  · exact red_scale hk hb
/-- a triple in least terms -/
def Good (D : Int) (t : Int × Int × Int) : Prop := 1 ≤ t.2.2 ∧ gcdI (gcdI t.1 t.2.1) t.2.2 = 1 ∧ (t.2.1 = 0 ∨ ¬ Sq D)
theorem least_good {D x y b : Int} (hb : b ≠ 0) : Good D (least D x y b) := by
  unfold least
  by_cases h : rt D * rt D = D
  · rw [if_pos h]
    refine ⟨red_below hb, red_gcd hb, .inl ?_⟩
    unfold red
    exact Int.zero_fdiv (lsg (x + y * rt D) 0 b)
  · rw [if_neg h]
    exact ⟨red_below hb, red_gcd hb, .inr h⟩
theorem red_self {X Y B : Int} (hB : 1 ≤ B) (hg : gcdI (gcdI X Y) B = 1) : red X Y B = (X, Y, B) :=
  red_unique (s := 1) (by decide) hB hg (Int.one_mul _).symm (Int.one_mul _).symm (Int.one_mul _).symm
theorem least_self {D : Int} {t : Int × Int × Int} (h : Good D t) : least D t.1 t.2.1 t.2.2 = t := by
  obtain ⟨h1, h2, h3⟩ := h
  unfold least
  split
  · rename_i hs
    rcases h3 with h3 | h3
    · rw [h3] at h2 ⊢
      rw [Int.zero_mul, Int.add_zero, red_self h1 h2]
      exact Prod.ext rfl (Prod.ext h3.symm rfl)
    · exact absurd hs h3
  · rw [red_self h1 h2]
end Kx
namespace Kx
open PySem PySem.Spec PyProof.Rows L2
/-! ### kinds of values -/
def tyS (H : Hp) : V → Option String
  | .non => some "NoneType"
  | .bl _ => some "bool"
  | .int _ => some "int"
  | .str _ => some "str"
  | .ref a => match H a with
    | some (.lst _) => some "list"
    | some (.tup _) => some "tuple"
    | some (.dK _) => some "dict"
    | _ => none
  | _ => none
def isIntV : V → Bool
  | .int _ => true
  | _ => false
theorem tyS_of {K : PySem.W.Frag} {H : Hp} {x : V} {t : String} (h : tyS H x = some t) : TyX K H x (.type t) ∧ t ∈ ["NoneType", "bool", "int", "str", "list", "tuple", "dict"] ∧ (isIntV x = (t == "int")) := by
  cases x with
  | non => cases h; exact ⟨.base .non, by decide, (show false = ("NoneType" == "int") by decide)⟩
  | bl b => cases h; exact ⟨.base (.bl b), by decide, (show false = ("bool" == "int") by decide)⟩
  | int i => cases h; exact ⟨.base (.int i), by decide, (show true = ("int" == "int") by decide)⟩
  | str z => cases h; exact ⟨.base (.str z), by decide, (show false = ("str" == "int") by decide)⟩
  | byt _ => cases h
  | flt _ => cases h
  | ty _ => cases h
  | ref a =>
    have h2 : (match H a with | some (.lst _) => some "list" | some (.tup _) => some "tuple" | some (.dK _) => some "dict" | _ => none) = some t := h
    cases e : H a with
    | none => rw [e] at h2; cases h2
    | some o =>
      rw [e] at h2
      cases o with
      | lst xs => cases h2; exact ⟨.base (.lst e), by decide, (show false = ("list" == "int") by decide)⟩
      | tup xs => cases h2; exact ⟨.base (.tup e), by decide, (show false = ("tuple" == "int") by decide)⟩
      | dK kvs => cases h2; exact ⟨.base (.dK e), by decide, (show false = ("dict" == "int") by decide)⟩
      | _ => cases h2
theorem tyS_same {H H' : Hp} {x : V} {t : String} (s : Same H H') (h : tyS H x = some t) : tyS H' x = some t := by
  cases x with
  | ref a =>
    have h2 : (match H a with | some (.lst _) => some "list" | some (.tup _) => some "tuple" | some (.dK _) => some "dict" | _ => none) = some t := h
    show (match H' a with | some (.lst _) => some "list" | some (.tup _) => some "tuple" | some (.dK _) => some "dict" | _ => none) = some t
    cases e : H a with
    | none => rw [e] at h2; cases h2
    | some o => rw [s a o e]; rw [e] at h2; exact h2
  | _ => exact h
def OkItem (H : Hp) (x : V) : Prop := ∃ t, tyS H x = some t
theorem OkItem.same {H H' : Hp} {x : V} (h : OkItem H x) (s : Same H H') : OkItem H' x := let ⟨t, e⟩ := h; ⟨t, tyS_same s e⟩
/-- a value that the judging defs may be asked for -/
def OkV (H : Hp) (x : V) : Prop := OkItem H x ∧ ∀ a xs, x = .ref a → H a = some (.tup xs) → ∀ y ∈ xs, OkItem H y
def wholesB (H : Hp) (m : Int) : V → Bool
  | .ref a => match H a with
    | some (.tup xs) => decide ((xs.length : Int) = m) && xs.all isIntV
    | _ => false
  | _ => false
def spWhole : Sp := fun vs H Q _ => ∃ x, vs = [x] ∧ OkItem H x ∧ Q (.bl (isIntV x)) H
def spWholes : Sp := fun vs H Q _ => ∃ (x : V) (m : Int), vs = [x, .int m] ∧ m ≤ 1000 ∧ OkV H x ∧ ∀ H', Same H H' → Q (.bl (wholesB H m x)) H'
def measB : V → Bool
  | .int i => decide (5 ≤ i) && decide (i % 4 < 2)
  | _ => false
def spIsMeasure : Sp := fun vs H Q _ => ∃ x, vs = [x] ∧ OkItem H x ∧ Q (.bl (measB x)) H
def Meas (D : Int) : Prop := 5 ≤ D ∧ D % 4 < 2
/-- where the measure is one -/
def spCheckMeasure0 : Sp := fun vs H Q _ => ∃ D : Int, vs = [.int D] ∧ Meas D ∧ Q .non H
def spHasRoot : Sp := fun vs H Q _ => ∃ D : Int, vs = [.int D] ∧ 0 ≤ D ∧ D < 2 ^ 2000 ∧ Q (.bl (decide (Sq D))) H
def rootB (D : Int) (H : Hp) (x : V) : Bool := wholesB H 3 x && (match x with
  | .ref a => match H a with
    | some (.tup [.int x, .int y, .int b]) => decide (1 ≤ b) && (decide (gcdI (gcdI x y) b ≤ 1) && (decide (y = 0) || !decide (Sq D)))
    | _ => false
  | _ => false)
def spIsRootOf : Sp := fun vs H Q _ => ∃ (D : Int) (x : V), vs = [.int D, x] ∧ 0 ≤ D ∧ D < 2 ^ 2000 ∧ OkV H x ∧ ∀ H', Same H H' → Q (.bl (rootB D H x)) H'
def rootV (t : Int × Int × Int) : List V := [.int t.1, .int t.2.1, .int t.2.2]
/-- a root number stands at a -/
def RootAt (D : Int) (H : Hp) (a : Addr) (t : Int × Int × Int) : Prop := H a = some (.tup (rootV t)) ∧ Good D t
theorem RootAt.same {D : Int} {H H' : Hp} {a : Addr} {t : Int × Int × Int} (h : RootAt D H a t) (s : Same H H') : RootAt D H' a t := ⟨s _ _ h.1, h.2⟩
theorem RootAt.okV {D : Int} {H : Hp} {a : Addr} {t : Int × Int × Int} (h : RootAt D H a t) : OkV H (.ref a) := by
  refine ⟨⟨"tuple", ?_⟩, fun b xs e1 e2 y hy => ?_⟩
  · show (match H a with | some (.lst _) => some "list" | some (.tup _) => some "tuple" | some (.dK _) => some "dict" | _ => none) = some "tuple"
    rw [h.1]
  · cases e1
    rw [h.1] at e2
    cases e2
    simp only [rootV, List.mem_cons, List.not_mem_nil, or_false] at hy
    rcases hy with rfl | rfl | rfl <;> exact ⟨"int", rfl⟩
theorem RootAt.isRoot {D : Int} {H : Hp} {a : Addr} {t : Int × Int × Int} (h : RootAt D H a t) : rootB D H (.ref a) = true := by
  obtain ⟨h1, h2, h3, h4⟩ := h
  unfold rootB wholesB
  simp only [h1, rootV, List.length_cons, List.length_nil, List.all_cons, List.all_nil, isIntV]
  rw [decide_eq_true h2, decide_eq_true (show gcdI (gcdI t.1 t.2.1) t.2.2 ≤ 1 by omega)]
  rcases h4 with h4 | h4
  · rw [decide_eq_true h4]; rfl
  · rw [decide_eq_false h4]; simp
/-- where every item is a root number -/
def spCheck0 : Sp := fun vs H Q _ => ∃ (D : Int) (a : Addr) (rs : List Addr), vs = [.int D, .ref a] ∧ Meas D ∧ D < 2 ^ 2000 ∧ H a = some (.tup (rs.map V.ref)) ∧ (∀ r ∈ rs, ∃ t, RootAt D H r t) ∧ ∀ H', Same H H' → Q .non H'
def spSgn : Sp := fun vs H Q _ => ∃ x : Int, vs = [.int x] ∧ Q (.int (sgn x)) H
def spFlM : Sp := fun vs H Q _ => ∃ D y : Int, vs = [.int D, .int y] ∧ 0 < D ∧ D < 2 ^ 1000 ∧ -(2 ^ 1000) < y ∧ y < 2 ^ 1000 ∧ Q (.int (flM D y)) H
/-- no part is too large -/
def Small (t : Int × Int × Int) : Prop := t.1.natAbs < 2 ^ 900 ∧ t.2.1.natAbs < 2 ^ 900 ∧ t.2.2.natAbs < 2 ^ 900
def spRootSide : Sp := fun vs H Q _ => ∃ (D : Int) (a : Addr) (t : Int × Int × Int), vs = [.int D, .ref a] ∧ Meas D ∧ D < 2 ^ 500 ∧ RootAt D H a t ∧ Small t ∧ ∀ H', Same H H' → Q (.int (sideP D t.1 t.2.1)) H'
def spRootFloor : Sp := fun vs H Q _ => ∃ (D : Int) (a : Addr) (t : Int × Int × Int), vs = [.int D, .ref a] ∧ Meas D ∧ D < 2 ^ 500 ∧ RootAt D H a t ∧ Small t ∧ ∀ H', Same H H' → Q (.int ((t.1 + flM D t.2.1).fdiv t.2.2)) H'
/-! ### the law's own -/
def spMeasure : Sp := fun vs H Q _ => ∃ (g : Addr) (n : Int) (k : Nat), vs = [.ref g, .int n] ∧ GenAt H g k ∧ k ≤ 2 ^ 39 ∧ 1 ≤ n ∧ n ≤ 40 ∧ ∀ (D : Int) (H' : Hp), Meas D → D < 2 ^ 200 → GenAt H' g (k + 100) → Keep g H H' → Q (.int D) H'
def spLeast : Sp := fun vs H Q _ => ∃ D x y b : Int, vs = [.int D, .int x, .int y, .int b] ∧ 0 ≤ D ∧ D < 2 ^ 1000 ∧ x.natAbs < 2 ^ 2000 ∧ y.natAbs < 2 ^ 2000 ∧ b.natAbs < 2 ^ 2000 ∧ b ≠ 0 ∧ ∀ (p : Addr) (H' : Hp), H p = none → Same H H' → H' p = some (.tup (rootV (least D x y b))) → Q (.ref p) H'
def spSideF : Sp := fun vs H Q _ => ∃ D x y : Int, vs = [.int D, .int x, .int y] ∧ 0 ≤ D ∧ D < 2 ^ 1000 ∧ x.natAbs < 2 ^ 2450 ∧ y.natAbs < 2 ^ 1000 ∧ Q (.int (sideF D x y)) H
def spDrawn : Sp := fun vs H Q _ => ∃ (g : Addr) (D n : Int) (k : Nat), vs = [.ref g, .int D, .int n] ∧ GenAt H g k ∧ k ≤ 2 ^ 39 ∧ 0 ≤ D ∧ D < 2 ^ 500 ∧ 1 ≤ n ∧ n ≤ 40 ∧
  ∀ (x y b : Int) (p : Addr) (H' : Hp), x.natAbs < 2 ^ 150 → y.natAbs < 2 ^ 150 → 1 ≤ b → b < 2 ^ 150 → H p = none → H' p = some (.tup (rootV (least D x y b))) → GenAt H' g (k + 100) → Keep g H H' → Q (.ref p) H'
def spFloorRight : Sp := fun vs H Q _ => ∃ (D : Int) (a : Addr) (t : Int × Int × Int), vs = [.int D, .ref a] ∧ Meas D ∧ D < 2 ^ 500 ∧ RootAt D H a t ∧ Small t ∧ ∀ H', Same H H' → Q (.bl true) H'
theorem Keep.free {g p : Addr} {H H' : Hp} (k : Keep g H H') (hp : p ≠ g) (h : H' p = none) : H p = none := by
  cases e : H p with
  | none => rfl
  | some o =>
    rw [k p o hp e] at h
    cases h
theorem wholes_get {H : Hp} {m : Int} {x : V} (h : wholesB H m x = true) : ∃ a xs, x = .ref a ∧ H a = some (.tup xs) ∧ (xs.length : Int) = m ∧ xs.all isIntV = true := by
  cases x with
  | ref a =>
    have h2 : (match H a with | some (.tup xs) => decide ((xs.length : Int) = m) && xs.all isIntV | _ => false) = true := h
    cases e : H a with
    | none => rw [e] at h2; cases h2
    | some o =>
      rw [e] at h2
      cases o with
      | tup xs =>
        obtain ⟨p, q⟩ := Bool.and_eq_true_iff.mp h2
        exact ⟨a, xs, rfl, e, of_decide_eq_true p, q⟩
      | _ => cases h2
  | _ => cases h
theorem isInt_get {x : V} (h : isIntV x = true) : ∃ i, x = .int i := by
  cases x with
  | int i => exact ⟨i, rfl⟩
  | _ => cases h
theorem wholes3 {H : Hp} {x : V} (h : wholesB H 3 x = true) : ∃ a i j k, x = .ref a ∧ H a = some (.tup [.int i, .int j, .int k]) := by
  obtain ⟨a, xs, e, ha, hl, hall⟩ := wholes_get h
  have hl3 : xs.length = 3 := by omega
  match xs, hl3 with
  | [u, v, w'], _ =>
    simp only [List.all_cons, List.all_nil, Bool.and_true, Bool.and_eq_true] at hall
    obtain ⟨h1, h2, h3⟩ := hall
    obtain ⟨i, rfl⟩ := isInt_get h1
    obtain ⟨j, rfl⟩ := isInt_get h2
    obtain ⟨l, rfl⟩ := isInt_get h3
    exact ⟨a, i, j, l, e, ha⟩
theorem rootB3 {D : Int} {H : Hp} {a : Addr} {i j k : Int} (h : H a = some (.tup [.int i, .int j, .int k])) : rootB D H (.ref a) = (decide (1 ≤ k) && (decide (gcdI (gcdI i j) k ≤ 1) && (decide (j = 0) || !decide (Sq D)))) := by
  unfold rootB wholesB
  simp only [h, List.length_cons, List.length_nil, List.all_cons, List.all_nil, isIntV, Bool.and_self, Bool.and_true]
  rfl
theorem rootB_not {D : Int} {H : Hp} {x : V} (h : wholesB H 3 x = false) : rootB D H x = false := by
  unfold rootB
  rw [h, Bool.false_and]
theorem measB_int {i : Int} : measB (.int i) = (decide (5 ≤ i) && decide (i % 4 < 2)) := rfl
theorem rIsi_ty {K : PySem.W.Frag} {H : Hp} {x : V} {t c : String} {b : Bool} {Q : VK} (ht : tyS H x = some t) (hb : kitB t c = some b) (q : Q (.bl b) H) : rIsi K [x, .ty c] H Q :=
  ⟨x, .ty c, .type t, .type c, b, rfl, .ty c, (tyS_of ht).1, kit_ty hb, q⟩
theorem tyS_tuple {H : Hp} {x : V} (h : tyS H x = some "tuple") : ∃ a xs, x = .ref a ∧ H a = some (.tup xs) := by
  cases x with
  | ref a =>
    have h2 : (match H a with | some (.lst _) => some "list" | some (.tup _) => some "tuple" | some (.dK _) => some "dict" | _ => none) = some "tuple" := h
    cases e : H a with
    | none => rw [e] at h2; cases h2
    | some o =>
      rw [e] at h2
      cases o with
      | tup xs => exact ⟨a, xs, rfl, e⟩
      | lst xs => exact absurd (Option.some.inj h2) (by decide)
      | dK xs => exact absurd (Option.some.inj h2) (by decide)
      | _ => cases h2
  | non => exact absurd (Option.some.inj h) (by decide)
  | bl _ => exact absurd (Option.some.inj h) (by decide)
  | int _ => exact absurd (Option.some.inj h) (by decide)
  | str _ => exact absurd (Option.some.inj h) (by decide)
  | _ => cases h
theorem tyS_tup {H : Hp} {a : Addr} {xs : List V} (h : H a = some (.tup xs)) : tyS H (.ref a) = some "tuple" := by
  show (match H a with | some (.lst _) => some "list" | some (.tup _) => some "tuple" | some (.dK _) => some "dict" | _ => none) = some "tuple"
  rw [h]
theorem wholes_not {H : Hp} {m : Int} {x : V} {t : String} (h : tyS H x = some t) (ht : t ≠ "tuple") : wholesB H m x = false := by
  cases hw : wholesB H m x with
  | false => rfl
  | true =>
    obtain ⟨a, xs, rfl, ha, _⟩ := wholes_get hw
    rw [tyS_tup ha] at h
    exact absurd (Option.some.inj h).symm ht
theorem wholes_tup {H : Hp} {m : Int} {a : Addr} {xs : List V} (h : H a = some (.tup xs)) : wholesB H m (.ref a) = (decide ((xs.length : Int) = m) && xs.all isIntV) := by
  unfold wholesB
  simp only [h]
theorem any_tuple (K : PySem.W.Frag) {H : Hp} {x : V} (h : OkItem H x) : (∃ t, tyS H x = some t ∧ kitB t "tuple" = some false ∧ t ≠ "tuple") ∨ (∃ a xs, x = .ref a ∧ H a = some (.tup xs)) := by
  obtain ⟨t, ht⟩ := h
  have hm := (tyS_of (K := K) ht).2.1
  simp only [List.mem_cons, List.not_mem_nil, or_false] at hm
  rcases hm with rfl | rfl | rfl | rfl | rfl | rfl | rfl
  · exact .inl ⟨_, ht, by decide +kernel, by decide⟩
  · exact .inl ⟨_, ht, by decide +kernel, by decide⟩
  · exact .inl ⟨_, ht, by decide +kernel, by decide⟩
  · exact .inl ⟨_, ht, by decide +kernel, by decide⟩
  · exact .inl ⟨_, ht, by decide +kernel, by decide⟩
  · exact .inr (tyS_tuple ht)
  · exact .inl ⟨_, ht, by decide +kernel, by decide⟩
theorem rt_le {n : Int} (h : 0 ≤ n) : 0 ≤ rt n ∧ rt n ≤ n := by
  obtain ⟨s0, s1, s2⟩ := rt_spec h
  refine ⟨s0, ?_⟩
  by_cases h : rt n ≤ 0
  · omega
  · have := Int.mul_le_mul_of_nonneg_right (show 1 ≤ rt n by omega) s0
    omega
theorem ediv_size {x b : Int} (h : 1 ≤ b) : (x / b).natAbs ≤ x.natAbs + 1 := by
  have h1 := Int.emod_nonneg x (show b ≠ 0 by omega)
  have h2 := Int.emod_lt_of_pos x (show 0 < b by omega)
  have h3 := Int.mul_ediv_add_emod x b
  by_cases hx : 0 ≤ x
  · have h4 := Int.ediv_nonneg hx (show 0 ≤ b by omega)
    have h5 := Int.ediv_le_self b hx
    omega
  · have hq : x / b ≤ -1 := by
      by_cases h : x / b ≤ -1
      · exact h
      · have := Int.mul_nonneg (show 0 ≤ b by omega) (show 0 ≤ x / b by omega)
        omega
    have h6 := Int.mul_le_mul_of_nonpos_right h (show x / b + 1 ≤ 0 by omega)
    rw [Int.mul_add, Int.mul_one] at h6
    omega
theorem flat_int {i : Int} (h : i.natAbs < 2 ^ 1900) : flatText (.int i) = some (toString i : Str) := by
  have h2 : i.natAbs.log2 < 1920 := Nat.lt_of_lt_of_le (PySem.Flt.log2_lt_of (by decide) h) (by decide)
  show (if i.natAbs.log2 < 1920 then some (toString i : Str) else none) = _
  rw [if_pos h2]
theorem sideF_small (D x y : Int) : (sideF D x y).natAbs ≤ 1 := by
  unfold sideF
  repeat' split
  all_goals decide
theorem least_small {D x y b : Int} (h0 : 0 ≤ D) (h1 : D < 2 ^ 200) (hx : x.natAbs < 2 ^ 600) (hy : y.natAbs < 2 ^ 600) (hb : b.natAbs < 2 ^ 600) (hb0 : b ≠ 0) : Small (least D x y b) := by
  obtain ⟨r0, r1⟩ := rt_le h0
  unfold least Small
  split
  · have w1 : (y * rt D).natAbs < 2 ^ (600 + 200) := wide_lt hy (by omega)
    simp only [Nat.reduceAdd] at w1
    obtain ⟨p, q, r⟩ := red_size (x := x + y * rt D) (y := 0) hb0
    exact ⟨by omega, by omega, by omega⟩
  · obtain ⟨p, q, r⟩ := red_size (x := x) (y := y) hb0
    exact ⟨by omega, by omega, by omega⟩
theorem RootAt.least {D x y b : Int} {H : Hp} {a : Addr} (h : H a = some (.tup (rootV (least D x y b)))) (hb0 : b ≠ 0) : RootAt D H a (least D x y b) := ⟨h, least_good hb0⟩
/-- behind all draws: what stood stands, a generator apart -/
def spRight (K : PySem.W.Frag) : Sp := fun vs H Q _ => ∃ g : Addr, vs = [.ref g] ∧ GenAt H g 100000 ∧ ∀ H', Keep g H H' → Q (.bl true) H'
def spLaw (K : PySem.W.Frag) : Sp := fun vs H Q _ => ∃ (a : Addr) (ns : List Int), vs = [.ref a] ∧ SqL K H a (ns.map V.int) ∧ ns.length ≤ 63 ∧ ∀ H', Q (.bl true) H'

theorem dpAll_ints {K : PySem.W.Frag} {H : Hp} : ∀ ns : List Int, DpAll K H (ns.map V.int) (ns.map PyData.int)
  | [] => .nil
  | n :: ns => .cons (.int n) (dpAll_ints ns)
theorem dp_ints {K : PySem.W.Frag} {H : Hp} {a : Addr} {ns : List Int} (h : H a = some (.lst (ns.map V.int))) : Dp K H (.ref a) (.list (ns.map PyData.int)) := .lst (SqL.of h) (dpAll_ints ns)
theorem eqv_same {d : PyData} (h : SeqAt.shaped d = true) : PyData.eqv d d = true := SeqAt.eqv_refl d (SeqAt.canLay_of_shaped h)
/-- two lists of the same ints -/
theorem ne_ints {K : PySem.W.Frag} {H : Hp} {a b : Addr} {Q : VK} (ns : List Int) (h1 : H a = some (.lst (ns.map V.int))) (h2 : H b = some (.lst (ns.map V.int))) (hs : SeqAt.shaped (.list (ns.map PyData.int)) = true) (q : Q (.bl false) H) : rNeD K (.ref a) (.ref b) H Q :=
  ⟨_, _, dp_ints h1, dp_ints h2, hs, hs, by rw [eqv_same hs]; exact q⟩
theorem eq_ints {K : PySem.W.Frag} {H : Hp} {a b : Addr} {Q : VK} (ns : List Int) (h1 : H a = some (.lst (ns.map V.int))) (h2 : H b = some (.lst (ns.map V.int))) (hs : SeqAt.shaped (.list (ns.map PyData.int)) = true) (q : Q (.bl true) H) : rEqD K (.ref a) (.ref b) H Q :=
  ⟨_, _, dp_ints h1, dp_ints h2, hs, hs, by rw [eqv_same hs]; exact q⟩
theorem ne_new {H : Hp} {p q : Addr} {o : HO} (h : upd H p o q = none) : p ≠ q := fun z => by
  rw [← z, upd_same] at h
  cases h
end Kx

set_option Elab.async false
set_option linter.all false
set_option maxRecDepth 100000
set_option maxHeartbeats 4000000
set_option exponentiation.threshold 4000
/-! Defs that ask for the repr of data: no repr is under way around them. -/
namespace Kx
open PySem PySem.Spec PyProof.Rows L2

structure FnG (P : Program) (w : World) (K : PySem.W.Frag) (mg : Str → Option Value) (base : Heap) (k : Nat) (f : Addr) (fd : FuncData) (ps : List Str) (sp : Sp) : Prop where
  len : ∀ vs H Q E, sp vs H Q E → vs.length = ps.length
  run : ∀ (A : Around) (outer : List Env) (s : Shared) (H : Hp) (args : Args) (us : List Value) (vs : List V) (Q : VK) (E : XK), A.guards = some [] → Room k A → Env0 P w K mg base A outer s H → BindsTo s fd args (ps.zip us) → Vals vs us → sp vs H Q E →
    codeAny (model P w) A (.call (.ref f) args) (CR CX0 outer P w H s Q E) s
theorem FnG.of {P : Program} {w : World} {K : PySem.W.Frag} {mg : Str → Option Value} {base : Heap} {k : Nat} {f : Addr} {fd : FuncData} {ps : List Str} {sp : Sp} (F : FnOk P w K mg base CX0 k f fd ps sp) : FnG P w K mg base k f fd ps sp :=
  ⟨F.len, fun A outer s H args us vs Q E _ => F.run A outer s H args us vs Q E⟩
section
variable {P : Program} {w : World} {K : PySem.W.Frag} {mg : Str → Option Value} {base : Heap}
/-- a def by its body, which may lean on the guards -/
theorem fnG_mk {x qual : Str} {st : Stmt} {f : Addr} {fd : FuncData} {N ps : List Str} {k : Nat} {sp : Sp} (F : Fun K x qual st f fd) (S : FnScope N ps (defScope st)) (hlen : ∀ vs H Q E, sp vs H Q E → vs.length = ps.length)
    (body : ∀ (cdv : Value) (A : Around) (outer : List Env) (s : Shared) (H : Hp) (vs : List V) (Q : VK) (E : XK), (A.deeper (envOfC qual (defScope st) s.heap.objs.size f cdv)).guards = some [] → Room k (A.deeper (envOfC qual (defScope st) s.heap.objs.size f cdv)) → sp vs H Q E →
      ∃ t, PSs (cxOf CX0 P w K mg base N qual (defScope st) f cdv A outer s H E).nox (defBody st) t ∧ t { nx := fun _ H' => Q .non H', rt := Q } (L2.start N vs) H) : FnG P w K mg base (k + 1) f fd ps sp := by
  obtain ⟨cls0, dct0, kwd0, doc0, mod0, ann0, cdv, typ0, slots0, rfl, look, code⟩ := F.ex
  constructor
  · exact hlen
  · intro A outer s H args us vs Q E gd room e0 binds rel hsp
    have ln := hlen _ _ _ _ hsp
    have kept : ∀ b o, base.get? b = some o → s.heap.get? b = some o := fun b o z => (e0.bs b o z).1
    have kin := e0.mod.kin.keeps kept
    have kinds : ∀ y ∈ ps.zip us, (defScope st).names.lookup y.1 = some .local ∨ ((defScope st).names.lookup y.1 = some .cell ∧ ((cellsFrom (s.heap.objs.size + 1) (defScope st).names []).lookup y.1).isSome = true) := by
      rintro ⟨nm, vl⟩ hy
      rcases S.par nm (List.of_mem_zip hy).1 with h | h
      · left; exact h
      · right; exact ⟨h, PySem.W.cellsFrom_some _ _ _ (.inl h)⟩
    apply codeAny_call_function room.depth (kin _ _ look) rfl S.co S.gen rfl (PySem.W.codeRec_of kin code)
    apply binds
    refine wpAny_newFunctionEnv_cells S.kind kinds fun env henv s1 ic => ?_
    subst henv
    refine ⟨(e0.mod.nolimit.keeps kept).keeps ic.toInCall.keep, codeAny_func ?_⟩
    obtain ⟨t, der, rd⟩ := body cdv A outer s H vs Q E gd (room.deeper _) hsp
    have inv0 : Inv (cxOf CX0 P w K mg base N qual (defScope st) f cdv A outer s H E) [] (L2.start N vs) H s1 := inv_start S room.hd e0 ln rel ic
    have back : ∀ {σ1 : SV} {H1 : Hp} {s2 : Shared} {v : V} {u : Value}, Inv (cxOf CX0 P w K mg base N qual (defScope st) f cdv A outer s H E) [] σ1 H1 s2 → RelV v u → Q v H1 → CE outer P w H s Q u s2 := by
      intro σ1 H1 s2 v u J rv q
      exact ⟨v, H1, J.os, J.bare, J.base, J.hok, rv, q⟩
    refine wpAny_mono (der.nox.run [] s1 (L2.start N vs) H _ inv0 rd) (fun fl s2 hs => ?_) fun e s2 hs => hs
    cases fl with
    | ret u => exact let ⟨v, σ1, H1, J, rv, q⟩ := hs; back J rv q
    | next => exact let ⟨σ1, H1, J, q⟩ := hs; back (v := V.non) (u := Value.none) J rfl q
    | brk => exact let ⟨_, _, _, q⟩ := hs; q.elim
    | cont => exact let ⟨_, _, _, q⟩ := hs; q.elim
end
structure DefG (P : Program) (w : World) (K : PySem.W.Frag) (mg : Str → Option Value) (base : Heap) (k : Nat) (x : Str) (f : Addr) (fd : FuncData) (ps : List Str) (sp : Sp) : Prop where
  F : FnG P w K mg base k f fd ps sp
  m : mg x = some (.ref f)
  kp : PySem.W.keepIn K (.ref f) = true
  b : Binds K fd ps []
section
variable {X : Cx} {k j : Nat} {f : Addr} {fd : FuncData} {ps ks : List Str} {sp : Sp} {x : Str} {p pos : Pos} {e : Expr} {es : List Expr} {t tk : TA} {kws : List Keyword}
theorem pe_g (D : DefG X.prog X.w X.K X.mg X.base k x f fd ps sp) (gd : X.A.guards = some []) (hr : Room j X.A) (ha : PA X (e :: es) t) (hkj : k ≤ j := by decide) (hg : Gl X x := by rfl) (hdb : (x == ("__debug__" : Str)) = false := by decide)
    (he : starEach (e :: es) X.env = (false, eval e X.env) :: starEach es X.env := by rfl) (hpl : (backTo pos (starEach es X.env)).any (·.1) = false := by rfl) : PE X (.Call (.Name x p) (e :: es) [] pos) (tD sp t) := by
  refine ⟨fun pins s σ H Q I h => wpAny_Call_Name_kw (ld_glob I hg D.m ?_ hdb)⟩
  refine PySem.W.callWith_K (h₀ := X.base) I.ok.mod.kin D.kp (thn (ha.run pos pins s σ H _ I h) fun us s1 ⟨vs, H1, I1, r, q⟩ => ⟨I1.kIn, ?_⟩) he hpl
  have hl : us.length = ps.length := r.length.symm.trans (D.F.len _ _ _ _ q)
  have hb := D.b s1 us I1.kIn (by rw [List.append_nil]; exact hl)
  rw [List.append_nil] at hb
  refine wpAny_call (codeAny_mono (D.F.run X.A X.stack s1 H1 ⟨us, []⟩ us vs Q E0 gd (hr.mono hkj) I1.env0 hb r q) fun rr s2 hq => ?_)
  cases rr with
  | error er => exact (hq : False).elim
  | ok fl =>
    cases fl with
    | ret u => exact I1.after hq
    | next => exact False.elim hq
    | brk => exact False.elim hq
    | cont => exact False.elim hq
end
/-- repr of data -/
theorem cr_reprD {X : Cx} (gd : X.A.guards = some []) (hu : X.A.units + 64 < cLine) : CallR X (.builtin "repr") (fun vs H Q => ∃ (x : V) (d : PyData), vs = [x] ∧ Dp X.K H x d ∧ d.showable = true ∧ d.hasDict = false ∧ d.depth ≤ 60 ∧ d.shown.length ≤ sizeLine ∧ Q (.str d.shown) H) := by
  intro pins s σ H vs us Q I r h
  obtain ⟨x, d, rfl, hd, h1, h2, h3, h4, q⟩ := h
  obtain ⟨u, rfl, rx⟩ := vals1 r
  cases x with
  | ref a =>
    cases rx
    obtain ⟨as, rd⟩ := Dp.reads I d (.ref a) (.ref a) hd rfl
    exact repr_of_reads' rd h1 (PyData.noDict_hsm h2) gd (by omega) (fun _ _ z => z) (fun h' t tk hk => ⟨.str d.shown, H, I.kept hk, ⟨_, rfl⟩, q⟩) h4
  | int i =>
    cases hd
    obtain ⟨t, rfl⟩ := rx
    exact PySem.P.repr_of_int (by simpa [PyData.showable] using h1) ⟨.str _, H, I.tok _, ⟨_, rfl⟩, by simpa only [PyData.shown] using q⟩
  | bl b =>
    cases hd
    cases rx
    exact PySem.P.repr_of_bool ⟨.str _, H, I.tok _, ⟨_, rfl⟩, by simpa only [PyData.shown] using q⟩
  | non =>
    cases hd
    cases rx
    exact PySem.P.repr_of_none ⟨.str _, H, I.tok _, ⟨_, rfl⟩, by simpa only [PyData.shown] using q⟩
  | str z =>
    cases hd
    obtain ⟨t, rfl⟩ := rx
    exact PySem.P.repr_of_str ⟨.str _, H, I.tok _, ⟨_, rfl⟩, by simpa only [PyData.shown] using q⟩ (by simpa only [PyData.shown] using h4)
  | _ => cases hd
end Kx
namespace Kx
open PySem PySem.Spec PyProof.Rows L2
section
variable {P : Program} {w : World} {K : PySem.W.Frag} {mg mb : Str → Option Value} {k : Nat} {fa a : Addr} {fd : FuncData} {x : Str} {sp : Sp} {s₁ : Shared} {vs : List Value} {ns : List Int}
/-- the law's def at a heap in which nothing but the script is tracked -/
theorem lawG_at (kin : K.In s₁.heap) (gl : s₁.heap.Ns mainGlobals mg) (bl : s₁.heap.Ns builtinsNs mb) (bb : ∀ x : Str, x ≠ "__name__" → mb x = bootBuiltins x) (lim : s₁.heap.NoLimit) (gens : s₁.gens = #[])
    (sc : s₁.heap.get? a = some { cls := .type "list", data := .seq vs.toArray }) (hr : Room k callerA)
    (F : ∀ base : Heap, K.In base → base.Ns mainGlobals mg → FnG P w K mg base k fa fd [x] sp) (bind : ∀ (s : Shared) (u : Value), BindsTo s fd ⟨[u], []⟩ [(x, u)])
    (H : Hp) (only : Only H) (ok : HOk P w H s₁.heap) (lone : ∀ b, H b ≠ none → b = a) (notK : H a ≠ none → K.lookup a = none) (want : sp [.ref a] H (fun v _ => v = .bl true) E0) :
    codeAny (model P w) callerA (.call (.ref fa) ⟨[.ref a], []⟩) (fun r s' => r = .ok (.ret (.bool true)) ∧ OldK s₁.heap s'.heap ∧ s'.os = s₁.os ∧ AllBare s'.gens) s₁ := by
  have free : ∀ {b : Addr}, b ≠ a → H b = none := fun {b} hb => by
    cases q : H b with
    | none => rfl
    | some u => exact (hb (lone b (by rw [q]; exact Option.some_ne_none u))).elim
  have dictFree : ∀ {b : Addr} {o : Obj} {es : Array DictEntry} {ep : Nat}, s₁.heap.get? b = some o → o.data = .dict es ep → H b = none := fun {b o es ep} e d => by
    by_cases hb : b = a
    · subst hb
      rw [sc] at e
      cases e
      exact absurd d (fun z => by cases z)
    · exact free hb
  have kNs : ∀ {b : Addr} {m : Str → Option Value}, s₁.heap.Ns b m → (hidT s₁.heap H).Ns b m := by
    rintro b m ⟨o, es, ep, e, d, r⟩
    exact ⟨o, es, ep, hidT_get e (dictFree e d), d, r⟩
  have kFree : ∀ b o, K.lookup b = some o → H b = none := fun b o e => by
    by_cases hb : b = a
    · subst hb
      cases q : H b with
      | none => rfl
      | some u =>
        rw [notK (by rw [q]; exact Option.some_ne_none u)] at e
        cases e
    · exact free hb
  have kinB : K.In (hidT s₁.heap H) := fun b o e => hidT_get (kin b o e) (kFree b o e)
  have modB : Mod K mg (hidT s₁.heap H) := ⟨kinB, kNs gl, ⟨mb, kNs bl, bb⟩, by
    obtain ⟨mc, l1, l2⟩ := lim
    exact ⟨mc, kNs l1, l2⟩⟩
  have entry : Env0 P w K mg (hidT s₁.heap H) callerA [] s₁ H :=
    { frames := rfl, mod := modB, bs := fun b o e => of_hidT e, bsz := Nat.le_of_eq (hidT_size _ _), funs := trivial, frf := fun b hb => (by cases hb), hok := ok, bare := .of_eq gens }
  have go := (F _ kinB (kNs gl)).run callerA [] s₁ H ⟨[.ref a], []⟩ [.ref a] [.ref a] (fun v _ => v = .bl true) E0 rfl hr entry (bind s₁ (.ref a)) (.cons rfl .nil) want
  refine codeAny_mono go fun r s' h => ?_
  match r, h with
  | .error _, h => exact (h : False).elim
  | .ok .next, h => exact (h : False).elim
  | .ok .brk, h => exact (h : False).elim
  | .ok .cont, h => exact (h : False).elim
  | .ok (.ret u), h =>
    obtain ⟨v, H1, os, bare, un, ok1, rel, q⟩ := h
    have q1 : v = .bl true := q
    rw [q1] at rel
    have ru : u = Value.bool true := rel
    rw [ru]
    refine ⟨rfl, OldK.of_keep fun b o e => ?_, os, bare⟩
    cases hb : H b with
    | none => exact un.keep b o e hb (fun z => by cases z) (fun z => by cases z)
    | some t =>
      rcases only b with z | ⟨ob, xs, z⟩
      · rw [hb] at z; cases z
      · have e1 := (ok b _ z).1
        rw [e] at e1
        cases e1
        exact (ok1 b _ (un.frzs b _ _ z)).1
theorem lawG (kin : K.In s₁.heap) (gl : s₁.heap.Ns mainGlobals mg) (bl : s₁.heap.Ns builtinsNs mb) (bb : ∀ x : Str, x ≠ "__name__" → mb x = bootBuiltins x) (lim : s₁.heap.NoLimit) (gens : s₁.gens = #[])
    (sc : s₁.heap.get? a = some { cls := .type "list", data := .seq vs.toArray }) (hints : IntsAre vs ns) (hl : ns.length ≤ sizeLine) (hr : Room k callerA)
    (F : ∀ base : Heap, K.In base → base.Ns mainGlobals mg → FnG P w K mg base k fa fd [x] sp) (bind : ∀ (s : Shared) (u : Value), BindsTo s fd ⟨[u], []⟩ [(x, u)])
    (want : ∀ H : Hp, Only H → SqL K H a (ns.map V.int) → sp [.ref a] H (fun v _ => v = .bl true) E0) :
    codeAny (model P w) callerA (.call (.ref fa) ⟨[.ref a], []⟩) (fun r s' => r = .ok (.ret (.bool true)) ∧ OldK s₁.heap s'.heap ∧ s'.os = s₁.os ∧ AllBare s'.gens) s₁ := by
  have rv := vals_ints hints
  have lenV := hints.length
  cases hk : K.lookup a with
  | some o =>
    have e := kin a o hk
    rw [sc] at e
    cases e
    have on : Only (fun _ => none) := fun _ => .inl rfl
    refine lawG_at kin gl bl bb lim gens sc hr F bind (fun _ => none) on (fun b u z => by cases z) (fun b z => (z rfl).elim) (fun z => (z rfl).elim) (want _ on ?_)
    exact .inr ⟨_, vs.toArray, _, hk, rfl, rfl, rfl, by rw [List.size_toArray, lenV]; exact hl, by simpa using rv⟩
  | none =>
    have on : Only (fun b => if b = a then some (.frz { cls := .type "list", data := .seq vs.toArray } (.lst (ns.map V.int))) else none) := fun b => by
      by_cases hb : b = a
      · exact .inr ⟨_, _, if_pos hb⟩
      · exact .inl (if_neg hb)
    refine lawG_at kin gl bl bb lim gens sc hr F bind _ on (fun b u z => ?_) (fun b z => ?_) (fun _ => hk) (want _ on (.inl (.inr ⟨_, if_pos rfl⟩)))
    · by_cases hb : b = a
      · have z1 := (if_pos hb).symm.trans z
        cases z1
        rw [hb]
        exact ⟨sc, by rw [List.length_map]; exact hl, vs, _, rv, sc⟩
      · have z1 := (if_neg hb).symm.trans z
        cases z1
    · by_cases hb : b = a
      · exact hb
      · exact (z (if_neg hb)).elim
end
theorem walkG {l : PySem.W.OpenLaw} {n k : Nat} {q : Program} {loose : List Str} {XP : (Str → Option Value) → Heap → Prop} {YP : World → Heap → Prop} {d : DefRec} {K : Params → PySem.W.Frag} {sp : World → Sp} {x : Str}
    (hn : l.most = some n) (hn2 : n ≤ sizeLine) (hdf : d.params.defaults = []) (hr : Room k callerA) (hY : ∀ (w : World) (h : Heap), YP w h → (K w.params).In h)
    (F : ∀ (w : World) (mg : Str → Option Value) (fa : Addr) (h : Heap), (K w.params).In h → h.Ns mainGlobals mg → mg d.name = some (.ref fa) →
      ∃ fd : FuncData, (∀ (s : Shared) (u : Value), BindsTo s fd ⟨[u], []⟩ [(x, u)]) ∧ ∀ base : Heap, (K w.params).In base → base.Ns mainGlobals mg → FnG l.prog w (K w.params) mg base k fa fd [x] (sp w))
    (want : ∀ (w : World) (H : Hp) (a : Addr) (ns : List Int), ns.length ≤ n → Only H → SqL (K w.params) H a (ns.map V.int) → sp w [.ref a] H (fun v _ => v = .bl true) E0) :
    PySem.W.WalkO q loose XP YP l.row.toRowW d [] (fun f vs => PySem.call f vs) := by
  apply Att.attach_call hn hdf
  intro w s₀ s₁ mg mb fa o pm cd doc a vs ns G Y ho hd hcd hmg hobj hints hlen hg
  obtain ⟨fd, hb, hF⟩ := F w mg fa _ (hY w _ Y) G.T.g hmg
  exact lawG (hY w _ Y) G.T.g G.T.b G.T.builtins G.T.nolimit hg hobj hints (Nat.le_trans hlen hn2) hr hF hb (fun H hO hS => want w H a ns hlen hO hS)
end Kx

set_option Elab.async false
set_option linter.all false
set_option maxRecDepth 100000
set_option maxHeartbeats 4000000
set_option exponentiation.threshold 4000
/-! The reckoning of root numbers. -/
namespace Kx
open PySem
theorem least_red {D x y b : Int} (h : Sq D → y = 0) : least D x y b = red x y b := by
  unfold least
  split
  · rename_i hs
    rw [h hs, Int.zero_mul, Int.add_zero]
  · rfl
def plusT (D s : Int) (t u : Int × Int × Int) : Int × Int × Int := least D (t.1 * u.2.2 + s * u.1 * t.2.2) (t.2.1 * u.2.2 + s * u.2.1 * t.2.2) (t.2.2 * u.2.2)
def timesT (D : Int) (t u : Int × Int × Int) : Int × Int × Int := least D (t.1 * u.1 + D * t.2.1 * u.2.1) (t.1 * u.2.1 + t.2.1 * u.1) (t.2.2 * u.2.2)
def normT (D : Int) (u : Int × Int × Int) : Int := u.1 * u.1 - D * u.2.1 * u.2.1
def invT (D : Int) (u : Int × Int × Int) : Int × Int × Int := least D (u.2.2 * u.1) (-u.2.2 * u.2.1) (normT D u)
theorem Good.flat {D : Int} {t : Int × Int × Int} (h : Good D t) (s : Sq D) : t.2.1 = 0 := by
  rcases h.2.2 with h | h
  · exact h
  · exact absurd s h
theorem mul_ne {a b : Int} (h : a ≠ 0) (h2 : b ≠ 0) : a * b ≠ 0 := Int.mul_ne_zero h h2
theorem below_ne {D : Int} {t : Int × Int × Int} (h : Good D t) : t.2.2 ≠ 0 := by have := h.1; omega
theorem plus_good {D s : Int} {t u : Int × Int × Int} (ht : Good D t) (hu : Good D u) : Good D (plusT D s t u) := least_good (mul_ne (below_ne ht) (below_ne hu))
theorem times_good {D : Int} {t u : Int × Int × Int} (ht : Good D t) (hu : Good D u) : Good D (timesT D t u) := least_good (mul_ne (below_ne ht) (below_ne hu))
theorem norm_ne {D : Int} {u : Int × Int × Int} (h0 : 0 ≤ D) (hu : Good D u) (hz : ¬ (u.1 = 0 ∧ u.2.1 = 0)) : normT D u ≠ 0 := fun e => by
  unfold normT at e
  by_cases hy : u.2.1 = 0
  · rw [hy] at e
    have h1 : u.1 ≠ 0 := fun z => hz ⟨z, hy⟩
    have h2 := xx_pos h1
    rw [Int.mul_zero] at e
    omega
  · rcases hu.2.2 with h | h
    · exact hy h
    · exact h (sq_of (x := u.1) h0 hy (by omega))
theorem plus_red {D s : Int} {t u : Int × Int × Int} (ht : Good D t) (hu : Good D u) : plusT D s t u = red (t.1 * u.2.2 + s * u.1 * t.2.2) (t.2.1 * u.2.2 + s * u.2.1 * t.2.2) (t.2.2 * u.2.2) :=
  least_red fun h => by rw [ht.flat h, hu.flat h, Int.zero_mul, Int.mul_zero, Int.zero_mul]; rfl
theorem times_red {D : Int} {t u : Int × Int × Int} (ht : Good D t) (hu : Good D u) : timesT D t u = red (t.1 * u.1 + D * t.2.1 * u.2.1) (t.1 * u.2.1 + t.2.1 * u.1) (t.2.2 * u.2.2) :=
  least_red fun h => by rw [ht.flat h, hu.flat h, Int.zero_mul, Int.mul_zero]; rfl
theorem inv_red {D : Int} {u : Int × Int × Int} (hu : Good D u) : invT D u = red (u.2.2 * u.1) (-u.2.2 * u.2.1) (normT D u) :=
  least_red fun h => by rw [hu.flat h, Int.mul_zero]
theorem inv_good {D : Int} {u : Int × Int × Int} (h0 : 0 ≤ D) (hu : Good D u) (hz : ¬ (u.1 = 0 ∧ u.2.1 = 0)) : Good D (invT D u) := least_good (norm_ne h0 hu hz)
theorem ringA (a3 p a1 P1 D a2 P2 : Int) : a3 * p * (a1 * P1 + D * a2 * P2) = a3 * (a1 * (p * P1) + D * a2 * (p * P2)) := by grind
theorem ringB (u v U1 V3 V1 U3 : Int) : u * v * (U1 * V3 + 1 * V1 * U3) = (u * U1) * (v * V3) + 1 * (v * V1) * (u * U3) := by grind
theorem ringC (a1 a2 a3 b1 b2 b3 c1 c2 c3 D : Int) : a3 * (a1 * (b1 * c3 + 1 * c1 * b3) + D * a2 * (b2 * c3 + 1 * c2 * b3)) = (a1 * b1 + D * a2 * b2) * (a3 * c3) + 1 * (a1 * c1 + D * a2 * c2) * (a3 * b3) := by grind
theorem ringD (a3 p a1 P1 a2 P2 : Int) : a3 * p * (a1 * P2 + a2 * P1) = a3 * (a1 * (p * P2) + a2 * (p * P1)) := by grind
theorem ringE (a1 a2 a3 b1 b2 b3 c1 c2 c3 : Int) : a3 * (a1 * (b2 * c3 + 1 * c2 * b3) + a2 * (b1 * c3 + 1 * c1 * b3)) = (a1 * b2 + a2 * b1) * (a3 * c3) + 1 * (a1 * c2 + a2 * c1) * (a3 * b3) := by grind
theorem ringF (a3 p P3 : Int) : a3 * p * (a3 * P3) = a3 * (a3 * (p * P3)) := by grind
theorem ringG (u v U3 V3 : Int) : u * v * (U3 * V3) = (u * U3) * (v * V3) := by grind
theorem ringH (a3 b3 c3 : Int) : a3 * (a3 * (b3 * c3)) = (a3 * b3) * (a3 * c3) := by grind
theorem ringI (q i T1 b1 D T2 b2 : Int) : q * i * (T1 * b1 + D * T2 * b2) = i * (b1 * (q * T1) + D * b2 * (q * T2)) := by grind
theorem ringJ (i a1 I1 D a2 I2 b1 b2 : Int) : i * (b1 * (a1 * I1 + D * a2 * I2) + D * b2 * (a1 * I2 + a2 * I1)) = b1 * (a1 * (i * I1) + D * a2 * (i * I2)) + D * b2 * (a1 * (i * I2) + a2 * (i * I1)) := by grind
theorem ringK (a1 a2 b1 b2 b3 D : Int) : b1 * (a1 * (b3 * b1) + D * a2 * (-b3 * b2)) + D * b2 * (a1 * (-b3 * b2) + a2 * (b3 * b1)) = b3 * (b1 * b1 - D * b2 * b2) * a1 := by grind
theorem ringL (q i T1 b1 T2 b2 : Int) : q * i * (T1 * b2 + T2 * b1) = i * (b2 * (q * T1) + b1 * (q * T2)) := by grind
theorem ringM (i a1 I1 D a2 I2 b1 b2 : Int) : i * (b2 * (a1 * I1 + D * a2 * I2) + b1 * (a1 * I2 + a2 * I1)) = b2 * (a1 * (i * I1) + D * a2 * (i * I2)) + b1 * (a1 * (i * I2) + a2 * (i * I1)) := by grind
theorem ringN (a1 a2 b1 b2 b3 D : Int) : b2 * (a1 * (b3 * b1) + D * a2 * (-b3 * b2)) + b1 * (a1 * (-b3 * b2) + a2 * (b3 * b1)) = b3 * (b1 * b1 - D * b2 * b2) * a2 := by grind
theorem ringO (q i T3 b3 : Int) : q * i * (T3 * b3) = i * b3 * (q * T3) := by grind
theorem ringP (i a3 I3 b3 : Int) : i * b3 * (a3 * I3) = b3 * (i * I3) * a3 := by grind
theorem ringQ (q i U1 I1 D U2 I2 : Int) : q * i * (U1 * I1 + D * U2 * I2) = (q * U1) * (i * I1) + D * (q * U2) * (i * I2) := by grind
theorem ringR (a1 a2 b1 b2 b3 D : Int) : (a1 * b1 + D * a2 * b2) * (b3 * b1) + D * (a1 * b2 + a2 * b1) * (-b3 * b2) = b3 * (b1 * b1 - D * b2 * b2) * a1 := by grind
theorem ringS (q i U1 I1 U2 I2 : Int) : q * i * (U1 * I2 + U2 * I1) = (q * U1) * (i * I2) + (q * U2) * (i * I1) := by grind
theorem ringT (a1 a2 b1 b2 b3 D : Int) : (a1 * b1 + D * a2 * b2) * (-b3 * b2) + (a1 * b2 + a2 * b1) * (b3 * b1) = b3 * (b1 * b1 - D * b2 * b2) * a2 := by grind
theorem ringU (a3 b3 n : Int) : (a3 * b3) * n = b3 * n * a3 := by grind
/-- the sum's product is the products' sum -/
theorem distrib {D : Int} {a b c : Int × Int × Int} (ha : Good D a) (hb : Good D b) (hc : Good D c) : timesT D a (plusT D 1 b c) = plusT D 1 (timesT D a b) (timesT D a c) := by
  have na := below_ne ha
  have nb := below_ne hb
  have nc := below_ne hc
  have gP : Good D (plusT D 1 b c) := plus_good hb hc
  have gU : Good D (timesT D a b) := times_good ha hb
  have gV : Good D (timesT D a c) := times_good ha hc
  rw [times_red ha gP, plus_red gU gV]
  obtain ⟨p1, p2, p3⟩ := red_mul (x := b.1 * c.2.2 + 1 * c.1 * b.2.2) (y := b.2.1 * c.2.2 + 1 * c.2.1 * b.2.2) (mul_ne nb nc)
  obtain ⟨u1, u2, u3⟩ := red_mul (x := a.1 * b.1 + D * a.2.1 * b.2.1) (y := a.1 * b.2.1 + a.2.1 * b.1) (mul_ne na nb)
  obtain ⟨v1, v2, v3⟩ := red_mul (x := a.1 * c.1 + D * a.2.1 * c.2.1) (y := a.1 * c.2.1 + a.2.1 * c.1) (mul_ne na nc)
  rw [← plus_red hb hc] at p1 p2 p3
  rw [← times_red ha hb] at u1 u2 u3
  rw [← times_red ha hc] at v1 v2 v3
  have sp := lsg_ne (x := b.1 * c.2.2 + 1 * c.1 * b.2.2) (y := b.2.1 * c.2.2 + 1 * c.2.1 * b.2.2) (mul_ne nb nc)
  have su := lsg_ne (x := a.1 * b.1 + D * a.2.1 * b.2.1) (y := a.1 * b.2.1 + a.2.1 * b.1) (mul_ne na nb)
  have sv := lsg_ne (x := a.1 * c.1 + D * a.2.1 * c.2.1) (y := a.1 * c.2.1 + a.2.1 * c.1) (mul_ne na nc)
  have nP := below_ne gP
  have nU := below_ne gU
  have nV := below_ne gV
  generalize lsg (b.1 * c.2.2 + 1 * c.1 * b.2.2) (b.2.1 * c.2.2 + 1 * c.2.1 * b.2.2) (b.2.2 * c.2.2) = p at *
  generalize lsg (a.1 * b.1 + D * a.2.1 * b.2.1) (a.1 * b.2.1 + a.2.1 * b.1) (a.2.2 * b.2.2) = u at *
  generalize lsg (a.1 * c.1 + D * a.2.1 * c.2.1) (a.1 * c.2.1 + a.2.1 * c.1) (a.2.2 * c.2.2) = v at *
  generalize plusT D 1 b c = P at *
  generalize timesT D a b = U at *
  generalize timesT D a c = V at *
  rw [← red_scale (k := a.2.2 * p) (mul_ne na sp) (mul_ne na nP), ← red_scale (k := u * v) (mul_ne su sv) (mul_ne nU nV)]
  have e1 : a.2.2 * p * (a.1 * P.1 + D * a.2.1 * P.2.1) = u * v * (U.1 * V.2.2 + 1 * V.1 * U.2.2) := by rw [ringA, ← p1, ← p2, ringB u v, ← u1, ← v3, ← v1, ← u3, ringC]
  have e2 : a.2.2 * p * (a.1 * P.2.1 + a.2.1 * P.1) = u * v * (U.2.1 * V.2.2 + 1 * V.2.1 * U.2.2) := by rw [ringD, ← p1, ← p2, ringB u v, ← u2, ← v3, ← v2, ← u3, ringE]
  have e3 : a.2.2 * p * (a.2.2 * P.2.2) = u * v * (U.2.2 * V.2.2) := by rw [ringF, ← p3, ringG, ← u3, ← v3, ringH]
  rw [e1, e2, e3]
/-- what is divided by comes back -/
theorem over_times {D : Int} {a b : Int × Int × Int} (h0 : 0 ≤ D) (ha : Good D a) (hb : Good D b) (hz : ¬ (b.1 = 0 ∧ b.2.1 = 0)) : timesT D (timesT D a (invT D b)) b = a := by
  have na := below_ne ha
  have nb := below_ne hb
  have nn := norm_ne h0 hb hz
  have gI := inv_good h0 hb hz
  have gQ : Good D (timesT D a (invT D b)) := times_good ha gI
  rw [times_red gQ hb]
  obtain ⟨i1, i2, i3⟩ := red_mul (x := b.2.2 * b.1) (y := -b.2.2 * b.2.1) nn
  have si := lsg_ne (x := b.2.2 * b.1) (y := -b.2.2 * b.2.1) nn
  rw [← inv_red hb] at i1 i2 i3
  have nI := below_ne gI
  obtain ⟨q1, q2, q3⟩ := red_mul (x := a.1 * (invT D b).1 + D * a.2.1 * (invT D b).2.1) (y := a.1 * (invT D b).2.1 + a.2.1 * (invT D b).1) (mul_ne na nI)
  have sq := lsg_ne (x := a.1 * (invT D b).1 + D * a.2.1 * (invT D b).2.1) (y := a.1 * (invT D b).2.1 + a.2.1 * (invT D b).1) (mul_ne na nI)
  rw [← times_red ha gI] at q1 q2 q3
  have nQ := below_ne gQ
  generalize lsg (a.1 * (invT D b).1 + D * a.2.1 * (invT D b).2.1) (a.1 * (invT D b).2.1 + a.2.1 * (invT D b).1) (a.2.2 * (invT D b).2.2) = q at *
  generalize timesT D a (invT D b) = T at *
  generalize lsg (b.2.2 * b.1) (-b.2.2 * b.2.1) (normT D b) = i at *
  generalize invT D b = I at *
  have hn : normT D b = b.1 * b.1 - D * b.2.1 * b.2.1 := rfl
  generalize normT D b = n at *
  rw [← red_scale (k := q * i) (mul_ne sq si) (mul_ne nQ nb)]
  have e1 : q * i * (T.1 * b.1 + D * T.2.1 * b.2.1) = b.2.2 * n * a.1 := by rw [ringI, ← q1, ← q2, ringJ, ← i1, ← i2, ringK, ← hn]
  have e2 : q * i * (T.1 * b.2.1 + T.2.1 * b.1) = b.2.2 * n * a.2.1 := by rw [ringL, ← q1, ← q2, ringM, ← i1, ← i2, ringN, ← hn]
  have e3 : q * i * (T.2.2 * b.2.2) = b.2.2 * n * a.2.2 := by rw [ringO, ← q3, ringP, ← i3]
  rw [e1, e2, e3, red_scale (mul_ne nb nn) na]
  exact red_self ha.1 ha.2.1
theorem times_over {D : Int} {a b : Int × Int × Int} (h0 : 0 ≤ D) (ha : Good D a) (hb : Good D b) (hz : ¬ (b.1 = 0 ∧ b.2.1 = 0)) : timesT D (timesT D a b) (invT D b) = a := by
  have na := below_ne ha
  have nb := below_ne hb
  have nn := norm_ne h0 hb hz
  have gI := inv_good h0 hb hz
  have gU : Good D (timesT D a b) := times_good ha hb
  rw [times_red gU gI]
  obtain ⟨i1, i2, i3⟩ := red_mul (x := b.2.2 * b.1) (y := -b.2.2 * b.2.1) nn
  have si := lsg_ne (x := b.2.2 * b.1) (y := -b.2.2 * b.2.1) nn
  rw [← inv_red hb] at i1 i2 i3
  have nI := below_ne gI
  obtain ⟨q1, q2, q3⟩ := red_mul (x := a.1 * b.1 + D * a.2.1 * b.2.1) (y := a.1 * b.2.1 + a.2.1 * b.1) (mul_ne na nb)
  have sq := lsg_ne (x := a.1 * b.1 + D * a.2.1 * b.2.1) (y := a.1 * b.2.1 + a.2.1 * b.1) (mul_ne na nb)
  rw [← times_red ha hb] at q1 q2 q3
  have nU := below_ne gU
  generalize lsg (a.1 * b.1 + D * a.2.1 * b.2.1) (a.1 * b.2.1 + a.2.1 * b.1) (a.2.2 * b.2.2) = q at *
  generalize timesT D a b = U at *
  generalize lsg (b.2.2 * b.1) (-b.2.2 * b.2.1) (normT D b) = i at *
  generalize invT D b = I at *
  have hn : normT D b = b.1 * b.1 - D * b.2.1 * b.2.1 := rfl
  generalize normT D b = n at *
  rw [← red_scale (k := q * i) (mul_ne sq si) (mul_ne nU nI)]
  have e1 : q * i * (U.1 * I.1 + D * U.2.1 * I.2.1) = b.2.2 * n * a.1 := by rw [ringQ, ← q1, ← q2, ← i1, ← i2, ringR, ← hn]
  have e2 : q * i * (U.1 * I.2.1 + U.2.1 * I.1) = b.2.2 * n * a.2.1 := by rw [ringS, ← q1, ← q2, ← i1, ← i2, ringT, ← hn]
  have e3 : q * i * (U.2.2 * I.2.2) = b.2.2 * n * a.2.2 := by rw [ringG, ← q3, ← i3, ringU]
  rw [e1, e2, e3, red_scale (mul_ne nb nn) na]
  exact red_self ha.1 ha.2.1
end Kx
namespace Kx
open PySem PySem.Spec PyProof.Rows L2
/-! ### sizes -/
def Sz (n : Nat) (t : Int × Int × Int) : Prop := t.1.natAbs < 2 ^ n ∧ t.2.1.natAbs < 2 ^ n ∧ t.2.2.natAbs < 2 ^ n
theorem up {x n m : Nat} (h : x < 2 ^ n) (l : n ≤ m) : x < 2 ^ m := Nat.lt_of_lt_of_le h (Nat.pow_le_pow_right (by decide) l)
theorem Sz.up {n m : Nat} {t : Int × Int × Int} (h : Sz n t) (l : n ≤ m) : Sz m t := ⟨Kx.up h.1 l, Kx.up h.2.1 l, Kx.up h.2.2 l⟩
theorem sz_add {x y : Int} {k : Nat} (hx : x.natAbs < 2 ^ k) (hy : y.natAbs < 2 ^ k) : (x + y).natAbs < 2 ^ (k + 1) := by
  rw [Nat.pow_succ]
  omega
theorem sz_sub {x y : Int} {k : Nat} (hx : x.natAbs < 2 ^ k) (hy : y.natAbs < 2 ^ k) : (x - y).natAbs < 2 ^ (k + 1) := by
  rw [Nat.pow_succ]
  omega
theorem bnd {x : Int} {n : Nat} (h : x.natAbs < 2 ^ n) (l : n ≤ 2000) : x.natAbs < 2 ^ 2000 := up h l
theorem okm {i j : Int} {n m : Nat} (hi : i.natAbs < 2 ^ n) (hj : j.natAbs < 2 ^ m) (ln : n ≤ 2000) (lm : m ≤ 2000) : IntMulOk i j := by
  have h1 := bnd hi ln
  have h2 := bnd hj lm
  exact cmw (by omega) (by omega) (by omega) (by omega)
theorem red_sz {x y b : Int} {n : Nat} (hb : b ≠ 0) (h1 : x.natAbs < 2 ^ n) (h2 : y.natAbs < 2 ^ n) (h3 : b.natAbs < 2 ^ n) : Sz n (red x y b) := by
  obtain ⟨p, q, r⟩ := red_size (x := x) (y := y) hb
  exact ⟨Nat.lt_of_le_of_lt p h1, Nat.lt_of_le_of_lt q h2, Nat.lt_of_le_of_lt r h3⟩
section
variable {D s : Int} {t u : Int × Int × Int} {n m : Nat}
theorem one_mul_sz {s z : Int} {k : Nat} (hs : s = 1 ∨ s = -1) (hz : z.natAbs < 2 ^ k) : (s * z).natAbs < 2 ^ k := by
  rcases hs with rfl | rfl
  · rw [Int.one_mul]; exact hz
  · rw [Int.neg_mul, Int.one_mul, Int.natAbs_neg]; exact hz
theorem plus_sz (hs : s = 1 ∨ s = -1) (ht : Good D t) (hu : Good D u) (zt : Sz n t) (zu : Sz m u) : Sz (n + m + 1) (plusT D s t u) := by
  rw [plus_red ht hu]
  refine red_sz (mul_ne (below_ne ht) (below_ne hu)) (sz_add (wide_lt zt.1 zu.2.2) ?_) (sz_add (wide_lt zt.2.1 zu.2.2) ?_) (Kx.up (wide_lt zt.2.2 zu.2.2) (by omega))
  · rw [Nat.add_comm n m]; exact wide_lt (one_mul_sz hs zu.1) zt.2.2
  · rw [Nat.add_comm n m]; exact wide_lt (one_mul_sz hs zu.2.1) zt.2.2
theorem dmul_sz {k : Nat} (h0 : D.natAbs < 2 ^ 200) {x y : Int} (hx : x.natAbs < 2 ^ n) (hy : y.natAbs < 2 ^ m) (l : 200 + n + m ≤ k) : (D * x * y).natAbs < 2 ^ k := Kx.up (wide_lt (wide_lt h0 hx) hy) l
theorem times_sz (h0 : D.natAbs < 2 ^ 200) (ht : Good D t) (hu : Good D u) (zt : Sz n t) (zu : Sz m u) : Sz (n + m + 201) (timesT D t u) := by
  rw [times_red ht hu]
  refine red_sz (mul_ne (below_ne ht) (below_ne hu)) (sz_add (Kx.up (wide_lt zt.1 zu.1) (by omega)) (dmul_sz h0 zt.2.1 zu.2.1 (by omega))) (Kx.up (sz_add (wide_lt zt.1 zu.2.1) (wide_lt zt.2.1 zu.1)) (by omega)) (Kx.up (wide_lt zt.2.2 zu.2.2) (by omega))
theorem norm_sz (h0 : D.natAbs < 2 ^ 200) (zu : Sz m u) : (normT D u).natAbs < 2 ^ (2 * m + 201) := by
  unfold normT
  exact sz_sub (Kx.up (wide_lt zu.1 zu.1) (by omega)) (dmul_sz h0 zu.2.1 zu.2.1 (by omega))
theorem inv_sz (h0 : 0 ≤ D) (h1 : D.natAbs < 2 ^ 200) (hu : Good D u) (hz : ¬ (u.1 = 0 ∧ u.2.1 = 0)) (zu : Sz m u) : Sz (2 * m + 201) (invT D u) := by
  rw [inv_red hu]
  have hn : (-u.2.2).natAbs < 2 ^ m := by rw [Int.natAbs_neg]; exact zu.2.2
  exact red_sz (norm_ne h0 hu hz) (Kx.up (wide_lt zu.2.2 zu.1) (by omega)) (Kx.up (wide_lt hn zu.2.1) (by omega)) (norm_sz h1 zu)
end
/-! ### promises -/
def spReduced : Sp := fun vs H Q _ => ∃ D x y b : Int, vs = [.int D, .int x, .int y, .int b] ∧ 0 ≤ D ∧ D < 2 ^ 1000 ∧ x.natAbs < 2 ^ 2000 ∧ y.natAbs < 2 ^ 2000 ∧ b.natAbs < 2 ^ 2000 ∧ b ≠ 0 ∧ ∀ (p : Addr) (H' : Hp), H p = none → Same H H' → H' p = some (.tup (rootV (least D x y b))) → Q (.ref p) H'
/-- two root numbers at hand -/
structure Two (D : Int) (H : Hp) (a b : Addr) (t u : Int × Int × Int) (n m : Nat) : Prop where
  M : Meas D
  lt : D < 2 ^ 200
  ra : RootAt D H a t
  rb : RootAt D H b u
  za : Sz n t
  zb : Sz m u
theorem Two.same {D : Int} {H H' : Hp} {a b : Addr} {t u : Int × Int × Int} {n m : Nat} (h : Two D H a b t u n m) (s : Same H H') : Two D H' a b t u n m := ⟨h.M, h.lt, h.ra.same s, h.rb.same s, h.za, h.zb⟩
theorem Two.dn {D : Int} {H : Hp} {a b : Addr} {t u : Int × Int × Int} {n m : Nat} (h : Two D H a b t u n m) : 0 ≤ D ∧ D.natAbs < 2 ^ 200 := by
  have h1 := h.M.1
  have h2 := h.lt
  constructor <;> omega
def spTotal : Sp := fun vs H Q _ => ∃ (D s : Int) (a b : Addr) (t u : Int × Int × Int) (n m : Nat), vs = [.int D, .ref a, .ref b, .int s] ∧ (s = 1 ∨ s = -1) ∧ Two D H a b t u n m ∧ n + m ≤ 1700 ∧ ∀ (p : Addr) (H' : Hp), H p = none → Same H H' → RootAt D H' p (plusT D s t u) → Q (.ref p) H'
def spPlus (s : Int) : Sp := fun vs H Q _ => ∃ (D : Int) (a b : Addr) (t u : Int × Int × Int) (n m : Nat), vs = [.int D, .ref a, .ref b] ∧ Two D H a b t u n m ∧ n + m ≤ 1700 ∧ ∀ (p : Addr) (H' : Hp), H p = none → Same H H' → RootAt D H' p (plusT D s t u) → Q (.ref p) H'
def spTimes : Sp := fun vs H Q _ => ∃ (D : Int) (a b : Addr) (t u : Int × Int × Int) (n m : Nat), vs = [.int D, .ref a, .ref b] ∧ Two D H a b t u n m ∧ n + m ≤ 1700 ∧ ∀ (p : Addr) (H' : Hp), H p = none → Same H H' → RootAt D H' p (timesT D t u) → Q (.ref p) H'
def spOver : Sp := fun vs H Q _ => ∃ (D : Int) (a b : Addr) (t u : Int × Int × Int) (n m : Nat), vs = [.int D, .ref a, .ref b] ∧ Two D H a b t u n m ∧ n + 2 * m ≤ 1450 ∧ ¬ (u.1 = 0 ∧ u.2.1 = 0) ∧ ∀ (p : Addr) (H' : Hp), H p = none → Same H H' → RootAt D H' p (timesT D t (invT D u)) → Q (.ref p) H'
/-- the law's own sums: with the sign as the last argument -/
def spLawPlus : Sp := spTotal
/-! ### repr -/
mutual
def cost : PyData → Nat
  | .none => 4
  | .bool _ => 5
  | .int _ => 1925
  | .str x => (reprText x).length
  | .list xs => costAll xs + 3
  | .tuple xs => costAll xs + 3
  | .dict _ => 0
def costAll : List PyData → Nat
  | [] => 0
  | x :: xs => cost x + 2 + costAll xs
end
theorem listText_le : ∀ ts : List Str, (listText ts).length ≤ piled ts + 3
  | [] => by decide
  | t :: ts => by
    unfold listText
    show (textFrom 1 (("[" : Str) ++ t) ts ++ ("]" : Str)).length ≤ _
    have h := textFrom_length_pos ts 1 (("[" : Str) ++ t) (by decide)
    have e1 : ∀ a b : Str, (a ++ b).length = a.length + b.length := fun a b => Str.length_append a b
    rw [e1, h, e1, piled_cons]
    have e2 : ("[" : Str).length = 1 := by decide
    have e3 : ("]" : Str).length = 1 := by decide
    omega
theorem tupleText_le (ts : List Str) : (tupleText ts).length ≤ piled ts + 3 := by
  unfold tupleText
  have e1 : ∀ a b : Str, (a ++ b).length = a.length + b.length := fun a b => Str.length_append a b
  rw [e1, e1]
  have e2 : ("(" : Str).length = 1 := by decide
  have hj : (Str.join ", " ts).length ≤ piled ts := by
    cases ts with
    | nil => decide
    | cons t r =>
      have := join_length_add (t :: r) (by simp)
      omega
  have e3 : ∀ c : Bool, ((if c then ",)" else ")" : String) : Str).length ≤ 2 := fun c => by cases c <;> decide
  have := e3 (ts.length == 1)
  omega
mutual
theorem cost_ok : ∀ d : PyData, d.showable = true → d.hasDict = false → d.shown.length ≤ cost d
  | .none, _, _ => by simp only [PyData.shown, cost]; decide
  | .bool b, _, _ => by cases b <;> simp only [PyData.shown, cost] <;> decide
  | .int i, h, _ => by
    simp only [PyData.shown, cost]
    have h2 : i.natAbs.log2 < 1920 := by simpa [PyData.showable] using h
    exact Nat.le_trans (int_text_len_1921 h2) (by decide)
  | .str x, _, _ => by simp only [PyData.shown, cost]; exact Nat.le_refl _
  | .list xs, h, hd => by
    simp only [PyData.shown, cost]
    have := costAll_ok xs (by simpa [PyData.showable] using h) (by simpa [PyData.hasDict] using hd)
    have := listText_le (PyData.shownAll xs)
    omega
  | .tuple xs, h, hd => by
    simp only [PyData.shown, cost]
    have := costAll_ok xs (by simpa [PyData.showable] using h) (by simpa [PyData.hasDict] using hd)
    have := tupleText_le (PyData.shownAll xs)
    omega
  | .dict _, _, h => by simp [PyData.hasDict] at h
theorem costAll_ok : ∀ ds : List PyData, PyData.showableAll ds = true → PyData.hasDictAll ds = false → piled (PyData.shownAll ds) ≤ costAll ds
  | [], _, _ => by simp only [PyData.shownAll, costAll]; decide
  | d :: ds, h, hd => by
    have h1 : d.showable = true ∧ PyData.showableAll ds = true := by simpa [PyData.showableAll] using h
    have h2 : d.hasDict = false ∧ PyData.hasDictAll ds = false := by simpa [PyData.hasDictAll] using hd
    simp only [PyData.shownAll, costAll, piled_cons]
    have := cost_ok d h1.1 h2.1
    have := costAll_ok ds h1.2 h2.2
    omega
end
/-- data whose repr may be asked for -/
structure Rp (K : PySem.W.Frag) (H : Hp) (x : V) (d : PyData) : Prop where
  dp : Dp K H x d
  sh : d.showable = true
  nd : d.hasDict = false
  de : d.depth ≤ 60
  co : cost d ≤ 16000000
theorem cr_reprR {X : Cx} (gd : X.A.guards = some []) (hu : X.A.units + 64 < cLine) : CallR X (.builtin "repr") (fun vs H Q => ∃ (x : V) (d : PyData), vs = [x] ∧ Rp X.K H x d ∧ Q (.str d.shown) H) := by
  intro pins s σ H vs us Q I r h
  obtain ⟨x, d, e, R, q⟩ := h
  exact cr_reprD gd hu pins s σ H vs us Q I r ⟨x, d, e, R.dp, R.sh, R.nd, R.de, Nat.le_trans (cost_ok d R.sh R.nd) (Nat.le_trans R.co (by decide)), q⟩
def rootD (t : Int × Int × Int) : PyData := .tuple [.int t.1, .int t.2.1, .int t.2.2]
theorem dp_root {K : PySem.W.Frag} {H : Hp} {a : Addr} {t : Int × Int × Int} (h : H a = some (.tup (rootV t))) : Dp K H (.ref a) (rootD t) := .tup (SqT.of h) (.cons (.int _) (.cons (.int _) (.cons (.int _) .nil)))
theorem log_sz {x : Int} {n : Nat} (h : x.natAbs < 2 ^ n) (l : n ≤ 1900) : x.natAbs.log2 < 1920 := Nat.lt_of_lt_of_le (PySem.Flt.log2_lt_of (by decide) (up h l)) (by decide)
theorem root_show {t : Int × Int × Int} {n : Nat} (z : Sz n t) (l : n ≤ 1900) : (rootD t).showable = true := by
  simp only [rootD, PyData.showable, PyData.showableAll, log_sz z.1 l, log_sz z.2.1 l, log_sz z.2.2 l, decide_true, Bool.and_self]
theorem shaped_root (t : Int × Int × Int) : SeqAt.shaped (rootD t) = true := rfl
theorem ne_roots {K : PySem.W.Frag} {H : Hp} {a b : Addr} {t u : Int × Int × Int} {Q : VK} (h1 : H a = some (.tup (rootV t))) (h2 : H b = some (.tup (rootV u))) (e : t = u) (q : Q (.bl false) H) : rNeD K (.ref a) (.ref b) H Q := by
  subst e
  exact ⟨_, _, dp_root h1, dp_root h2, rfl, rfl, by rw [eqv_same rfl]; exact q⟩
theorem eq_roots {K : PySem.W.Frag} {H : Hp} {a b : Addr} {t u : Int × Int × Int} {Q : VK} (h1 : H a = some (.tup (rootV t))) (h2 : H b = some (.tup (rootV u))) (e : t = u) (q : Q (.bl true) H) : rEqD K (.ref a) (.ref b) H Q := by
  subst e
  exact ⟨_, _, dp_root h1, dp_root h2, rfl, rfl, by rw [eqv_same rfl]; exact q⟩
theorem rp_roots3 {K : PySem.W.Frag} {H : Hp} {L a b c : Addr} {t u v : Int × Int × Int} {n m l : Nat} (hL : H L = some (.lst [.ref a, .ref b, .ref c])) (h1 : H a = some (.tup (rootV t))) (h2 : H b = some (.tup (rootV u))) (h3 : H c = some (.tup (rootV v)))
    (z1 : Sz n t) (z2 : Sz m u) (z3 : Sz l v) (l1 : n ≤ 1900) (l2 : m ≤ 1900) (l3 : l ≤ 1900) : Rp K H (.ref L) (.list [rootD t, rootD u, rootD v]) where
  dp := .lst (SqL.of hL) (.cons (dp_root h1) (.cons (dp_root h2) (.cons (dp_root h3) .nil)))
  sh := by
    show (PyData.showableAll [rootD t, rootD u, rootD v]) = true
    simp only [PyData.showableAll, root_show z1 l1, root_show z2 l2, root_show z3 l3, Bool.and_self]
  nd := rfl
  de := Nat.le_of_ble_eq_true rfl
  co := Nat.le_of_ble_eq_true rfl
theorem GenAt.ne {H : Hp} {g a : Addr} {k : Nat} (G : GenAt H g k) {xs : List V} (h : H a = some (.tup xs)) : a ≠ g := fun z => by
  obtain ⟨_, _, _, e, _⟩ := G
  rw [z, e] at h
  cases h
theorem GenAt.nn {H : Hp} {g a : Addr} {k : Nat} (G : GenAt H g k) (h : H a = none) : a ≠ g := fun z => by
  obtain ⟨_, _, _, e, _⟩ := G
  rw [z, e] at h
  cases h
theorem GenAt.upd {H : Hp} {g d : Addr} {k : Nat} {o : HO} (G : GenAt H g k) (h : d ≠ g) : GenAt (L2.upd H d o) g k := by
  obtain ⟨a, b, c, e, r⟩ := G
  exact ⟨a, b, c, by rw [upd_ne (Ne.symm h)]; exact e, r⟩
theorem Keep.root {D : Int} {H H' : Hp} {g a : Addr} {k : Nat} {t : Int × Int × Int} (s : Keep g H H') (G : GenAt H g k) (r : RootAt D H a t) : RootAt D H' a t := ⟨s _ _ (G.ne r.1) r.1, r.2⟩
theorem RootAt.upd {D : Int} {H : Hp} {d a : Addr} {t : Int × Int × Int} {xs : List V} {o : HO} (r : RootAt D H a t) (h : H d = some (.lst xs)) : RootAt D (L2.upd H d o) a t := by
  refine ⟨?_, r.2⟩
  rw [upd_ne (fun z => ?_)]
  · exact r.1
  · have := r.1
    rw [z, h] at this
    cases this
theorem Keep.upd {H H' : Hp} {g d : Addr} {o : HO} (s : Keep g H H') (h : H d = none) : Keep g H (L2.upd H' d o) := fun b u hb e => by
  rw [upd_ne (ne_of_none e h)]
  exact s b u hb e
theorem rt_half {D : Int} (h0 : 0 ≤ D) (h1 : D < 2 ^ 200) : rt D < 2 ^ 100 := by
  obtain ⟨s0, s1, s2⟩ := rt_spec h0
  by_cases h : rt D < 2 ^ 100
  · exact h
  · have := sq_mono (x := 2 ^ 100) (y := rt D) (by decide) (by omega)
    omega
theorem least_sz {D x y b : Int} (h0 : 0 ≤ D) (h1 : D < 2 ^ 200) (hx : x.natAbs < 2 ^ 150) (hy : y.natAbs < 2 ^ 150) (hb : b.natAbs < 2 ^ 150) (hb0 : b ≠ 0) : Sz 251 (least D x y b) := by
  obtain ⟨r0, r1⟩ := rt_le h0
  have r2 := rt_half h0 h1
  have w1 : (y * rt D).natAbs < 2 ^ (150 + 100) := wide_lt hy (by omega)
  simp only [Nat.reduceAdd] at w1
  unfold least
  split
  · exact red_sz hb0 (sz_add (up hx (by decide)) w1) (by decide) (up hb (by decide))
  · exact red_sz hb0 (up hx (by decide)) (up hy (by decide)) (up hb (by decide))
theorem Good.le {D : Int} {t : Int × Int × Int} (h : Good D t) : t = least D t.1 t.2.1 t.2.2 := (least_self h).symm
theorem two_new {D : Int} {H : Hp} {p q : Addr} {t u : Int × Int × Int} (M : Meas D) (l : D < 2 ^ 200) (n1 : H p = none) (n2 : L2.upd H p (.tup (rootV t)) q = none) (gt : Good D t) (gu : Good D u) (zt : Sz 10 t) (zu : Sz 10 u) :
    Two D (L2.upd (L2.upd H p (.tup (rootV t))) q (.tup (rootV u))) p q t u 10 10 :=
  ⟨M, l, ⟨by rw [upd_ne (ne_new n2)]; exact upd_same, gt⟩, ⟨upd_same, gu⟩, zt, zu⟩
end Kx

set_option Elab.async false
set_option linter.all false
set_option maxRecDepth 100000
set_option maxHeartbeats 4000000
set_option exponentiation.threshold 4000
/-! Odd values: what they are, and that they stay. -/
namespace Kx
open PySem PySem.Spec PyProof.Rows L2
mutual
theorem dp_same {K : PySem.W.Frag} {H H' : Hp} (s : Same H H') : ∀ (d : PyData) (v : V), Dp K H v d → Dp K H' v d
  | .none, _, h => by cases h; exact .non
  | .bool _, _, h => by cases h; exact .bl _
  | .int _, _, h => by cases h; exact .int _
  | .str _, _, h => by cases h; exact .str _
  | .list ds, _, h => by
    cases h with
    | lst q r => exact .lst (SqL.ext q s) (dpAll_same s ds _ r)
  | .tuple ds, _, h => by
    cases h with
    | tup q r => exact .tup (SqT.ext q s) (dpAll_same s ds _ r)
  | .dict _, _, h => by cases h
theorem dpAll_same {K : PySem.W.Frag} {H H' : Hp} (s : Same H H') : ∀ (ds : List PyData) (vs : List V), DpAll K H vs ds → DpAll K H' vs ds
  | [], _, h => by cases h; exact .nil
  | d :: ds, _, h => by
    cases h with
    | cons q r => exact .cons (dp_same s d _ q) (dpAll_same s ds _ r)
end
theorem Rp.same {K : PySem.W.Frag} {H H' : Hp} {x : V} {d : PyData} (h : Rp K H x d) (s : Same H H') : Rp K H' x d := ⟨dp_same s _ _ h.dp, h.sh, h.nd, h.de, h.co⟩
theorem OkItem.at {H : Hp} {a : Addr} (h : OkItem H (.ref a)) : ∃ o, H a = some o := by
  obtain ⟨t, ht⟩ := h
  have h2 : (match H a with | some (.lst _) => some "list" | some (.tup _) => some "tuple" | some (.dK _) => some "dict" | _ => none) = some t := ht
  cases e : H a with
  | none => rw [e] at h2; cases h2
  | some o => exact ⟨o, rfl⟩
theorem OkV.same {H H' : Hp} {x : V} (h : OkV H x) (s : Same H H') : OkV H' x := by
  refine ⟨h.1.same s, fun a xs e1 e2 y hy => ?_⟩
  subst e1
  obtain ⟨o, ho⟩ := h.1.at
  have := s _ _ ho
  rw [e2] at this
  cases this
  exact (h.2 a xs rfl ho y hy).same s
def Flat (d : PyData) : Prop := d.canLay0 = true ∧ d.depth ≤ 20
theorem flat_lay : ∀ {ds : List PyData}, (∀ d ∈ ds, Flat d) → PyData.canLayAll0 ds = true ∧ PyData.depthAll ds ≤ 20
  | [], _ => ⟨rfl, by simp only [PyData.depthAll]; omega⟩
  | d :: ds, h => by
    obtain ⟨h1, h2⟩ := h d (List.mem_cons_self ..)
    obtain ⟨h3, h4⟩ := flat_lay (ds := ds) fun e he => h e (List.mem_cons_of_mem _ he)
    refine ⟨?_, ?_⟩
    · simp only [PyData.canLayAll0, h1, h3, Bool.and_self]
    · simp only [PyData.depthAll]
      omega
theorem flat_shaped {ds : List PyData} (h : ∀ d ∈ ds, Flat d) : SeqAt.shaped (.list ds) = true := by
  obtain ⟨h1, h2⟩ := flat_lay h
  have e1 : PyData.canLay0 (.list ds) = true := by simp only [PyData.canLay0]; exact h1
  have e2 : PyData.depth (.list ds) ≤ 64 := by simp only [PyData.depth]; omega
  unfold SeqAt.shaped
  rw [e1, decide_eq_true e2]
  rfl
theorem dp_filter {K : PySem.W.Frag} {H : Hp} {f : V → Bool} : ∀ {xs : List V} {ds : List PyData}, DpAll K H xs ds → (∀ d ∈ ds, Flat d) → ∃ es, DpAll K H (xs.filter f) es ∧ ∀ d ∈ es, Flat d
  | [], _, _, _ => ⟨[], .nil, fun d hd => absurd hd List.not_mem_nil⟩
  | x :: xs, _, h, hf => by
    cases h with
    | @cons _ _ d ds q r =>
      obtain ⟨es, h1, h2⟩ := dp_filter (f := f) r fun e he => hf e (List.mem_cons_of_mem _ he)
      cases hx : f x with
      | true =>
        rw [List.filter_cons_of_pos hx]
        refine ⟨d :: es, .cons q h1, fun e he => ?_⟩
        rcases List.mem_cons.mp he with rfl | he
        · exact hf e (List.mem_cons_self ..)
        · exact h2 e he
      | false =>
        rw [List.filter_cons_of_neg (by rw [hx]; decide)]
        exact ⟨es, h1, h2⟩
theorem dpAll_nil {K : PySem.W.Frag} {H : Hp} {xs : List V} {ds : List PyData} (h : DpAll K H xs ds) : xs.isEmpty = ds.isEmpty := by
  cases h <;> rfl
/-- a value that is asked for, with its data -/
structure Val (K : PySem.W.Frag) (H : Hp) (x : V) (d : PyData) : Prop where
  rp : Rp K H x d
  ok : OkV H x
  it : ∀ a xs, x = .ref a → H a = some (.tup xs) → ∃ ds, DpAll K H xs ds ∧ ∀ d ∈ ds, Flat d
theorem Val.same {K : PySem.W.Frag} {H H' : Hp} {x : V} {d : PyData} (h : Val K H x d) (s : Same H H') : Val K H' x d := by
  refine ⟨h.rp.same s, h.ok.same s, fun a xs e1 e2 => ?_⟩
  subst e1
  obtain ⟨o, ho⟩ := h.ok.1.at
  have := s _ _ ho
  rw [e2] at this
  cases this
  obtain ⟨ds, h1, h2⟩ := h.it a xs rfl ho
  exact ⟨ds, dpAll_same s _ _ h1, h2⟩
theorem all_filter (f : V → Bool) : ∀ xs : List V, (xs.filter fun x => !f x).isEmpty = xs.all f
  | [] => rfl
  | x :: xs => by
    cases h : f x with
    | true => rw [List.filter_cons_of_neg (by rw [h]; decide), List.all_cons, h, Bool.true_and, all_filter f xs]
    | false => rw [List.filter_cons_of_pos (by rw [h]; rfl), List.all_cons, h]; rfl
theorem eqv_nil (es : List PyData) : PyData.eqv (.list es) (.list []) = es.isEmpty := by cases es <;> rfl
/-- a list that holds what is not let is empty exactly if all is let -/
theorem ne_empty {K : PySem.W.Frag} {H : Hp} {L E : Addr} {xs : List V} {ds : List PyData} {f : V → Bool} {Q : VK} (hL : H L = some (.lst (xs.filter fun x => !f x))) (hE : H E = some (.lst [])) (hd : DpAll K H xs ds) (hf : ∀ d ∈ ds, Flat d) (q : Q (.bl (!xs.all f)) H) : rNeD K (.ref L) (.ref E) H Q := by
  obtain ⟨es, h1, h2⟩ := dp_filter (f := fun x => !f x) hd hf
  refine ⟨.list es, .list [], .lst (SqL.of hL) h1, .lst (SqL.of hE) .nil, flat_shaped h2, rfl, ?_⟩
  rw [eqv_nil, ← dpAll_nil h1, all_filter]
  exact q
def spLawIsRoot (K : PySem.W.Frag) : Sp := fun vs H Q _ => ∃ (D : Int) (x : V) (d : PyData), vs = [.int D, x] ∧ 0 ≤ D ∧ D < 2 ^ 2000 ∧ Val K H x d ∧ ∀ H', Same H H' → Q (.bl (rootB D H x)) H'
def spIsRoot : Sp := fun vs H Q _ => ∃ (D : Int) (x : V), vs = [.int D, x] ∧ Meas D ∧ D < 2 ^ 2000 ∧ OkV H x ∧ ∀ H', Same H H' → Q (.bl (rootB D H x)) H'
/-- where all three are numbers, the last one not 0 -/
def spRootNumber0 : Sp := fun vs H Q _ => ∃ D x y b : Int, vs = [.int D, .int x, .int y, .int b] ∧ Meas D ∧ D < 2 ^ 1000 ∧ x.natAbs < 2 ^ 2000 ∧ y.natAbs < 2 ^ 2000 ∧ b.natAbs < 2 ^ 2000 ∧ b ≠ 0 ∧ ∀ (p : Addr) (H' : Hp), H p = none → Same H H' → H' p = some (.tup (rootV (least D x y b))) → Q (.ref p) H'
/-! ### values made of plain items -/
structure It (K : PySem.W.Frag) (H : Hp) (v : V) (d : PyData) : Prop where
  dp : Dp K H v d
  sh : d.showable = true
  nd : d.hasDict = false
  de : d.depth ≤ 10
  co : cost d ≤ 100000
  la : d.canLay0 = true
  ok : OkItem H v
inductive ItAll (K : PySem.W.Frag) (H : Hp) : List V → List PyData → Prop
  | nil : ItAll K H [] []
  | cons {v : V} {d : PyData} {vs : List V} {ds : List PyData} : It K H v d → ItAll K H vs ds → ItAll K H (v :: vs) (d :: ds)
section
variable {K : PySem.W.Frag} {H : Hp}
theorem It.int {i : Int} {n : Nat} (h : i.natAbs < 2 ^ n) (l : n ≤ 1900) : It K H (.int i) (.int i) :=
  ⟨.int i, by simp only [PyData.showable, log_sz h l, decide_true], rfl, Nat.le_of_ble_eq_true rfl, Nat.le_of_ble_eq_true rfl, rfl, ⟨"int", rfl⟩⟩
theorem It.bl {b : Bool} : It K H (.bl b) (.bool b) := ⟨.bl b, rfl, rfl, Nat.le_of_ble_eq_true rfl, Nat.le_of_ble_eq_true rfl, rfl, ⟨"bool", rfl⟩⟩
theorem It.non : It K H .non .none := ⟨.non, rfl, rfl, Nat.le_of_ble_eq_true rfl, Nat.le_of_ble_eq_true rfl, rfl, ⟨"NoneType", rfl⟩⟩
theorem It.str {x : Str} (h1 : (PyData.str x).showable = true) (h2 : cost (.str x) ≤ 100000) (h3 : (PyData.str x).canLay0 = true) : It K H (.str x) (.str x) := ⟨.str x, h1, rfl, Nat.le_of_ble_eq_true rfl, h2, h3, ⟨"str", rfl⟩⟩
theorem itAll_facts : ∀ {vs : List V} {ds : List PyData}, ItAll K H vs ds → DpAll K H vs ds ∧ PyData.showableAll ds = true ∧ PyData.hasDictAll ds = false ∧ PyData.depthAll ds ≤ 10 ∧ costAll ds ≤ 100002 * vs.length ∧ PyData.canLayAll0 ds = true ∧ (∀ v ∈ vs, OkItem H v) ∧ ∀ d ∈ ds, Flat d
  | [], _, h => by
    cases h
    exact ⟨.nil, rfl, rfl, by simp only [PyData.depthAll]; omega, by simp only [costAll]; omega, rfl, fun v hv => absurd hv List.not_mem_nil, fun v hv => absurd hv List.not_mem_nil⟩
  | v :: vs, _, h => by
    cases h with
    | cons q r =>
      obtain ⟨h1, h2, h3, h4, h5, h6, h7, h8⟩ := itAll_facts r
      have a1 := q.de
      have a2 := q.co
      refine ⟨.cons q.dp h1, ?_, ?_, ?_, ?_, ?_, ?_, ?_⟩
      · simp only [PyData.showableAll, q.sh, h2, Bool.and_self]
      · simp only [PyData.hasDictAll, q.nd, h3, Bool.or_self]
      · simp only [PyData.depthAll]; omega
      · simp only [costAll, List.length_cons]; omega
      · simp only [PyData.canLayAll0, q.la, h6, Bool.and_self]
      · intro x hx
        rcases List.mem_cons.mp hx with rfl | hx
        · exact q.ok
        · exact h7 x hx
      · intro x hx
        rcases List.mem_cons.mp hx with rfl | hx
        · exact ⟨q.la, by omega⟩
        · exact h8 x hx
theorem val_tup {p : Addr} {xs : List V} {ds : List PyData} (h : H p = some (.tup xs)) (hi : ItAll K H xs ds) (hl : xs.length ≤ 100) : Val K H (.ref p) (.tuple ds) := by
  obtain ⟨h1, h2, h3, h4, h5, h6, h7, h8⟩ := itAll_facts hi
  refine ⟨⟨.tup (SqT.of h) h1, ?_, ?_, ?_, ?_⟩, ⟨⟨"tuple", tyS_tup h⟩, fun a ys e1 e2 y hy => ?_⟩, fun a ys e1 e2 => ?_⟩
  · simp only [PyData.showable]; exact h2
  · simp only [PyData.hasDict]; exact h3
  · simp only [PyData.depth]; omega
  · simp only [cost]; omega
  · cases e1
    rw [h] at e2
    cases e2
    exact h7 y hy
  · cases e1
    rw [h] at e2
    cases e2
    exact ⟨ds, h1, h8⟩
theorem tyS_lst {a : Addr} {xs : List V} (h : H a = some (.lst xs)) : tyS H (.ref a) = some "list" := by
  show (match H a with | some (.lst _) => some "list" | some (.tup _) => some "tuple" | some (.dK _) => some "dict" | _ => none) = some "list"
  rw [h]
theorem val_lst {p : Addr} {xs : List V} {ds : List PyData} (h : H p = some (.lst xs)) (hi : ItAll K H xs ds) (hl : xs.length ≤ 100) : Val K H (.ref p) (.list ds) := by
  obtain ⟨h1, h2, h3, h4, h5, h6, h7, h8⟩ := itAll_facts hi
  refine ⟨⟨.lst (SqL.of h) h1, ?_, ?_, ?_, ?_⟩, ⟨⟨"list", tyS_lst h⟩, fun a ys e1 e2 y hy => ?_⟩, fun a ys e1 e2 => ?_⟩
  · simp only [PyData.showable]; exact h2
  · simp only [PyData.hasDict]; exact h3
  · simp only [PyData.depth]; omega
  · simp only [cost]; omega
  · cases e1
    rw [h] at e2
    cases e2
  · cases e1
    rw [h] at e2
    cases e2
/-- a list of one int as an item -/
theorem It.lst1 {p : Addr} {i : Int} {n : Nat} (h : H p = some (.lst [.int i])) (hi : i.natAbs < 2 ^ n) (l : n ≤ 1900) : It K H (.ref p) (.list [.int i]) :=
  ⟨.lst (SqL.of h) (.cons (.int _) .nil), by simp only [PyData.showable, PyData.showableAll, log_sz hi l, decide_true, Bool.and_self], rfl, Nat.le_of_ble_eq_true rfl, Nat.le_of_ble_eq_true rfl, rfl, ⟨"list", tyS_lst h⟩⟩
theorem val_root {D : Int} {p : Addr} {t : Int × Int × Int} {n : Nat} (h : RootAt D H p t) (z : Sz n t) (l : n ≤ 1900) : Val K H (.ref p) (rootD t) := val_tup h.1 (.cons (.int z.1 l) (.cons (.int z.2.1 l) (.cons (.int z.2.2 l) .nil))) (Nat.le_of_ble_eq_true rfl)
end
theorem wholesB_same {H H' : Hp} {m : Int} {x : V} (s : Same H H') (h : OkItem H x) : wholesB H' m x = wholesB H m x := by
  cases x with
  | ref a =>
    obtain ⟨o, ho⟩ := h.at
    unfold wholesB
    simp only [ho, s _ _ ho]
  | _ => rfl
theorem rootB_same {D : Int} {H H' : Hp} {x : V} (s : Same H H') (h : OkItem H x) : rootB D H' x = rootB D H x := by
  unfold rootB
  rw [wholesB_same s h]
  cases x with
  | ref a =>
    obtain ⟨o, ho⟩ := h.at
    simp only [ho, s _ _ ho]
  | _ => rfl
theorem rp_bl {K : PySem.W.Frag} {H : Hp} {b : Bool} : Rp K H (.bl b) (.bool b) := ⟨.bl b, rfl, rfl, Nat.le_of_ble_eq_true rfl, Nat.le_of_ble_eq_true rfl⟩
theorem rp_root {K : PySem.W.Frag} {D : Int} {H : Hp} {a : Addr} {t : Int × Int × Int} {n : Nat} (h : RootAt D H a t) (z : Sz n t) (l : n ≤ 1900) : Rp K H (.ref a) (rootD t) := (val_root h z l).rp
theorem okV_of {H : Hp} {x : V} {t : String} (h : tyS H x = some t) (hn : t ≠ "tuple") : OkV H x := ⟨⟨t, h⟩, fun a xs e1 e2 => by
  subst e1
  rw [tyS_tup e2] at h
  exact absurd (Option.some.inj h).symm hn⟩
theorem okV_tup0 {H : Hp} {a : Addr} (h : H a = some (.tup [])) : OkV H (.ref a) := ⟨⟨"tuple", tyS_tup h⟩, fun b xs e1 e2 y hy => by
  cases e1
  rw [h] at e2
  cases e2
  exact absurd hy List.not_mem_nil⟩
theorem tyS_dK {H : Hp} {a : Addr} {kvs : List (Key × V)} (h : H a = some (.dK kvs)) : tyS H (.ref a) = some "dict" := by
  show (match H a with | some (.lst _) => some "list" | some (.tup _) => some "tuple" | some (.dK _) => some "dict" | _ => none) = some "dict"
  rw [h]
theorem rootB_of {D : Int} {H : Hp} {x : V} {t : String} (h : tyS H x = some t) (hn : t ≠ "tuple") : rootB D H x = false := rootB_not (wholes_not h hn)
theorem rootB_tup0 {D : Int} {H : Hp} {a : Addr} (h : H a = some (.tup [])) : rootB D H (.ref a) = false := rootB_not (by rw [wholes_tup h]; rfl)
/-- the empty list beside the empty list -/
theorem ne_nil {K : PySem.W.Frag} {H : Hp} {a b : Addr} {Q : VK} (h1 : H a = some (.lst [])) (h2 : H b = some (.lst [])) (q : Q (.bl false) H) : rNeD K (.ref a) (.ref b) H Q :=
  ⟨.list [], .list [], .lst (SqL.of h1) .nil, .lst (SqL.of h2) .nil, rfl, rfl, q⟩
/-! rules that name the frame themselves, for comprehensions -/
section
variable {X : Cx} {K : PySem.W.Frag}
theorem call_isiK (h : X.K = K) : CallR X (.builtin "isinstance") (rIsi K) := h ▸ call_isi
theorem op_neDK (h : X.K = K) (hu : X.A.units + 64 < cLine) : OpR X (compareOp .NotEq) (rNeD K) := h ▸ op_neD hu
theorem op_eqDK (h : X.K = K) (hu : X.A.units + 64 < cLine) : OpR X (compareOp .Eq) (rEqD K) := h ▸ op_eqD hu
theorem sl_tupK (h : X.K = K) : SlR X (rSlT K) := h ▸ sl_tup
theorem sl_listK (h : X.K = K) : SlR X (rSlL K) := h ▸ sl_list
theorem op_catTK (h : X.K = K) : OpR X (binaryOp .Add) (rCatT K) := h ▸ op_catT
theorem call_list_ofK (h : X.K = K) : CallR X (.type "list") (fun xs H Q => ∃ p ys, xs = [.ref p] ∧ (SqL K H p ys ∨ SqT K H p ys) ∧ ∀ l, H l = none → Q (.ref l) (upd H l (.lst ys))) := h ▸ call_list_of
end
/-- one statement at a time -/
theorem seq_gen {A B : TS} {D : Ends} {σ : SV} {H : Hp} (h : ∀ C : SV → Hp → Prop, (∀ σ H, C σ H = B D σ H) → A { D with nx := C } σ H) : tSeq A B D σ H := h _ fun _ _ => rfl
end Kx

set_option Elab.async false
set_option linter.all false
set_option maxRecDepth 100000
set_option maxHeartbeats 4000000
set_option exponentiation.threshold 4000
namespace L02
open PySem PySem.Spec PyProof.Rows L2 Kx

def top (i : Nat) : Stmt := PySem.Challenge.pw_slitsheets_k02_whole_root_numbers_made.main.body.getD i (.Pass ⟨0, 0, 0, 0⟩)

abbrev s_IsWhole : Stmt := top 6

abbrev N_IsWhole : List Str := ["value"]

theorem scIsWhole : FnScope ["value"] ["value"] (defScope s_IsWhole) := ⟨rfl, rfl, rfl, by decide +kernel, rfl, by decide +kernel, by decide +kernel⟩

abbrev s_AreWholes : Stmt := top 7

abbrev N_AreWholes : List Str := ["value", "many", "item"]

theorem scAreWholes : FnScope ["value", "many", "item"] ["value", "many"] (defScope s_AreWholes) := ⟨rfl, rfl, rfl, by decide +kernel, rfl, by decide +kernel, by decide +kernel⟩

abbrev s_IsMeasure : Stmt := top 9

abbrev N_IsMeasure : List Str := ["value"]

theorem scIsMeasure : FnScope ["value"] ["value"] (defScope s_IsMeasure) := ⟨rfl, rfl, rfl, by decide +kernel, rfl, by decide +kernel, by decide +kernel⟩

abbrev s_CheckMeasure : Stmt := top 10

abbrev N_CheckMeasure : List Str := ["measure"]

theorem scCheckMeasure : FnScope ["measure"] ["measure"] (defScope s_CheckMeasure) := ⟨rfl, rfl, rfl, by decide +kernel, rfl, by decide +kernel, by decide +kernel⟩

abbrev s_IsRoot : Stmt := top 12

abbrev N_IsRoot : List Str := ["measure", "value"]

theorem scIsRoot : FnScope ["measure", "value"] ["measure", "value"] (defScope s_IsRoot) := ⟨rfl, rfl, rfl, by decide +kernel, rfl, by decide +kernel, by decide +kernel⟩

abbrev s_RootNumber : Stmt := top 13

abbrev N_RootNumber : List Str := ["measure", "x", "y", "below", "number"]

theorem scRootNumber : FnScope ["measure", "x", "y", "below", "number"] ["measure", "x", "y", "below"] (defScope s_RootNumber) := ⟨rfl, rfl, rfl, by decide +kernel, rfl, by decide +kernel, by decide +kernel⟩

abbrev s_IsRootOf : Stmt := top 14

abbrev N_IsRootOf : List Str := ["measure", "value", "x", "y", "below"]

theorem scIsRootOf : FnScope ["measure", "value", "x", "y", "below"] ["measure", "value"] (defScope s_IsRootOf) := ⟨rfl, rfl, rfl, by decide +kernel, rfl, by decide +kernel, by decide +kernel⟩

abbrev s_HasWholeRoot : Stmt := top 15

abbrev N_HasWholeRoot : List Str := ["measure", "root"]

theorem scHasWholeRoot : FnScope ["measure", "root"] ["measure"] (defScope s_HasWholeRoot) := ⟨rfl, rfl, rfl, by decide +kernel, rfl, by decide +kernel, by decide +kernel⟩

abbrev s_Reduced : Stmt := top 16

abbrev N_Reduced : List Str := ["measure", "x", "y", "below", "common"]

theorem scReduced : FnScope ["measure", "x", "y", "below", "common"] ["measure", "x", "y", "below"] (defScope s_Reduced) := ⟨rfl, rfl, rfl, by decide +kernel, rfl, by decide +kernel, by decide +kernel⟩

abbrev s_LawHash : Stmt := top 18

abbrev N_LawHash : List Str := ["_law_seed", "_law_index", "_law_mixed"]

theorem scLawHash : FnScope ["_law_seed", "_law_index", "_law_mixed"] ["_law_seed", "_law_index"] (defScope s_LawHash) := ⟨rfl, rfl, rfl, by decide +kernel, rfl, by decide +kernel, by decide +kernel⟩

abbrev s_LawRandom : Stmt := top 19

abbrev N_LawRandom : List Str := ["_law_generator_here", "_law_bound", "_law_drawn", "_law_turn"]

theorem scLawRandom : FnScope ["_law_generator_here", "_law_bound", "_law_drawn", "_law_turn"] ["_law_generator_here", "_law_bound"] (defScope s_LawRandom) := ⟨rfl, rfl, rfl, by decide +kernel, rfl, by decide +kernel, by decide +kernel⟩

abbrev s_LawCell : Stmt := top 20

abbrev N_LawCell : List Str := ["_law_script", "_law_index"]

theorem scLawCell : FnScope ["_law_script", "_law_index"] ["_law_script", "_law_index"] (defScope s_LawCell) := ⟨rfl, rfl, rfl, by decide +kernel, rfl, by decide +kernel, by decide +kernel⟩

abbrev s_LawGenerator : Stmt := top 21

abbrev N_LawGenerator : List Str := ["_law_script", "_law_index", "_law_seed"]

theorem scLawGenerator : FnScope ["_law_script", "_law_index", "_law_seed"] ["_law_script", "_law_index"] (defScope s_LawGenerator) := ⟨rfl, rfl, rfl, by decide +kernel, rfl, by decide +kernel, by decide +kernel⟩

abbrev s_LawCommon : Stmt := top 22

abbrev N_LawCommon : List Str := ["_law_one", "_law_other", "_law_low", "_law_high"]

theorem scLawCommon : FnScope ["_law_one", "_law_other", "_law_low", "_law_high"] ["_law_one", "_law_other"] (defScope s_LawCommon) := ⟨rfl, rfl, rfl, by decide +kernel, rfl, by decide +kernel, by decide +kernel⟩

abbrev s_LawRoot : Stmt := top 23

abbrev N_LawRoot : List Str := ["_law_number", "_law_low", "_law_high", "_law_middle"]

theorem scLawRoot : FnScope ["_law_number", "_law_low", "_law_high", "_law_middle"] ["_law_number"] (defScope s_LawRoot) := ⟨rfl, rfl, rfl, by decide +kernel, rfl, by decide +kernel, by decide +kernel⟩

abbrev s_LawMeasure : Stmt := top 24

abbrev N_LawMeasure : List Str := ["_law_generator_here", "_law_figures", "_law_bound", "_law_turn", "_law_number", "_law_found"]

theorem scLawMeasure : FnScope ["_law_generator_here", "_law_figures", "_law_bound", "_law_turn", "_law_number", "_law_found"] ["_law_generator_here", "_law_figures"] (defScope s_LawMeasure) := ⟨rfl, rfl, rfl, by decide +kernel, rfl, by decide +kernel, by decide +kernel⟩

abbrev s_LawLeast : Stmt := top 25

abbrev N_LawLeast : List Str := ["_law_measure_here", "_law_x", "_law_y", "_law_below", "_law_root_here", "_law_common_here"]

theorem scLawLeast : FnScope ["_law_measure_here", "_law_x", "_law_y", "_law_below", "_law_root_here", "_law_common_here"] ["_law_measure_here", "_law_x", "_law_y", "_law_below"] (defScope s_LawLeast) := ⟨rfl, rfl, rfl, by decide +kernel, rfl, by decide +kernel, by decide +kernel⟩

abbrev s_LawIsRoot : Stmt := top 26

abbrev N_LawIsRoot : List Str := ["_law_measure_here", "_law_value", "_law_root_here", "_law_item"]

theorem scLawIsRoot : FnScope ["_law_measure_here", "_law_value", "_law_root_here", "_law_item"] ["_law_measure_here", "_law_value"] (defScope s_LawIsRoot) := ⟨rfl, rfl, rfl, by decide +kernel, rfl, by decide +kernel, by decide +kernel⟩

abbrev s_LawRight : Stmt := top 27

abbrev N_LawRight : List Str := ["_law_generator_here", "_law_measure_here", "_law_turn", "_law_bound", "_law_x", "_law_y", "_law_below", "_law_due", "_law_by", "_law_found", "_law_bents", "_law_value", "_law_before", "_law_item"]

theorem scLawRight : FnScope ["_law_generator_here", "_law_measure_here", "_law_turn", "_law_bound", "_law_x", "_law_y", "_law_below", "_law_due", "_law_by", "_law_found", "_law_bents", "_law_value", "_law_before", "_law_item"] ["_law_generator_here"] (defScope s_LawRight) := ⟨rfl, rfl, rfl, by decide +kernel, rfl, by decide +kernel, by decide +kernel⟩

abbrev s_Law : Stmt := top 28

abbrev N_Law : List Str := ["_law_script", "_law_value"]

theorem scLaw : FnScope ["_law_script", "_law_value"] ["_law_script"] (defScope s_Law) := ⟨rfl, rfl, rfl, by decide +kernel, rfl, by decide +kernel, by decide +kernel⟩

/-- what the top leaves of the names -/
structure Txt (K : PySem.W.Frag) (mg : Str → Option Value) : Prop where
  abs : mg "abs" = none
  all : mg "all" = none
  bool : mg "bool" = none
  int : mg "int" = none
  isinstance : mg "isinstance" = none
  len : mg "len" = none
  list : mg "list" = none
  max : mg "max" = none
  range : mg "range" = none
  repr : mg "repr" = none
  sum : mg "sum" = none
  tuple : mg "tuple" = none
  gcd : mg "gcd" = some (.builtin "math.gcd")
  isqrt : mg "isqrt" = some (.builtin "math.isqrt")

section
variable {P : Program} {w : World} {K : PySem.W.Frag} {mg : Str → Option Value} {base : Heap}

theorem okLawHash {f : Addr} {fd : FuncData} (F : Fun K "_law_hash" "_law_hash" s_LawHash f fd) (T : Txt K mg) : FnOk P w K mg base CX0 1 f fd ["_law_seed", "_law_index"] (spHash) := by
  refine F.ok scLawHash (fun vs H Q E h => ?_) (fun cdv A outer s H vs Q E hr h => ?_)
  · obtain ⟨a, i, rfl, _⟩ := h
    rfl
  · obtain ⟨a, i, rfl, h0, h1, h2, h3, k⟩ := h
    refine ⟨_, (pss_cons (ps_set (i := 2) scLawHash.nd rfl (Or.inl rfl) (pe_op op_mod (pe_callTy cr_int (by rfl) T.int (by decide +kernel) (pa_cons (pe_op op_add (pe_op op_add (pe_op op_add (pe_op op_mulU (pv 0) pe_int) (pe_op op_mulU (pe_op op_mulU pe_int (pv 1)) (pv 1))) (pe_op op_mulU pe_int (pv 1))) pe_int) pa_nil)) pe_int))
        (pss_cons (ps_set (i := 2) scLawHash.nd rfl (Or.inl rfl) (pe_op op_mod (pe_callTy cr_int (by rfl) T.int (by decide +kernel) (pa_cons (pe_op op_add (pe_op op_add (pe_op op_mulU (pv 2) (pv 2)) (pe_op op_mulU pe_int (pv 1))) pe_int) pa_nil)) pe_int))
        (pss_one (ps_ret (pe_op op_mod (pe_callTy cr_int (by rfl) T.int (by decide +kernel) (pa_cons (pe_op op_mulU (pv 2) pe_int) pa_nil)) pe_int))))), ?_⟩
    have e0 : start N_LawHash [.int a, .int i] = [some (.int a), some (.int i), none] := rfl
    rw [e0]
    simp only [cxK, wipe, tYes, List.map_cons, List.map_nil, rIxL, rSum, tSl, rSlL, tNoPart, tPart, exists_and_left, and_assoc, V.ref.injEq, HO.lst.injEq, HO.tup.injEq, tFor_eq, iRng1, iRng2, iList, iTup, tLc_eq, tLst, tTup, gSub, rSetL, gT, gL, gTup, gCons, gNil, atI_0, atI_1, atI_2, atI_3, List.length_cons, List.length_nil, Nat.zero_add, Nat.reduceAdd, Nat.reduceLeDiff, ixN_30, ixN_31, ixN_32, Int.reduceLT, Int.reduceLE, Int.reduceNeg, upd_same, reduceCtorEq, false_and, exists_false, or_false, false_or, tSeq, tNext, tIfS, tRet, tRetN, tDrop, tAsg, gName, tPar, tPar3, tAug, ipI, tVar, tC, tOp, tUn, tCB, tD, tDK, tCons, tNil, rI, rI0, rU, tB, tTest, tAnd, tOr, tNot, tAndV, tOrV, tNotV, tIf, rEq, rNe, scal_ii, scal_bb, scal_ss, rGcd_eq, tBits, List.set_cons_zero, List.set_cons_succ, List.getElem?_cons_zero, List.getElem?_cons_succ, Option.some.injEq, exists_eq_left', V.int.injEq, V.bl.injEq, V.str.injEq, true_and, and_true, decide_eq_true_eq, List.cons.injEq, exists_eq_left, Bool.false_eq_true, if_false, if_true, ite_true, ite_false, Bool.not_eq_true', decide_eq_false_iff_not, Bool.not_not]
    exact ⟨cmw (by omega) (by omega) (by omega) (by omega), cmw (by omega) (by omega) (by omega) (by omega), cmw (by omega) (by omega) (by omega) (by omega), cmw (by omega) (by omega) (by omega) (by omega), cmw (by omega) (by omega) (by omega) (by omega), cmw (by omega) (by omega) (by omega) (by omega), cmw (by omega) (by omega) (by omega) (by omega), k _ (by omega) (by omega)⟩

def InvRandom (g : Addr) (n : Int) (k : Nat) (H : Hp) : Nat → SV → Hp → Prop := fun i σ H2 => ∃ (d : Int) (t : Option V), σ = [some (.ref g), some (.int n), some (.int d), t] ∧ GenAt H2 g (k + i) ∧ Keep g H H2

theorem okLawRandom {f : Addr} {fd : FuncData} (F : Fun K "_law_random" "_law_random" s_LawRandom f fd) (T : Txt K mg) {fLawHash : Addr} {fdLawHash : FuncData} (D_LawHash : DefAt P w K mg base 1 "_law_hash" fLawHash fdLawHash ["_law_seed", "_law_index"] (spHash)) : FnOk P w K mg base CX0 2 f fd ["_law_generator_here", "_law_bound"] (spRandom) := by
  refine F.ok scLawRandom (fun vs H Q E h => ?_) (fun cdv A outer s H vs Q E hr h => ?_)
  · obtain ⟨g, n, k, rfl, _⟩ := h
    rfl
  · obtain ⟨g, n, k, rfl, hG, hk, hn1, hn2, kk⟩ := h
    obtain ⟨a, b, c, hg, ha0, ha1, hb0, hb1, hc0, hc1⟩ := id hG
    refine ⟨_, (pss_cons (ps_if (pt_cmpR op_gt (pe_ix ixL (pv 0) pe_int (fun _ _ => rfl)) pe_int (nomark _)) (pss_cons (ps_set (i := 2) scLawRandom.nd rfl (Or.inl rfl) (pe_op op_mod (pe_callTy cr_int (by rfl) T.int (by decide +kernel) (pa_cons (pe_ix ixL (pv 0) pe_int (fun _ _ => rfl)) pa_nil)) (pv 1)))
        (pss_cons (ps_asg (pe_op op_fdivX (pe_ix ixL (pv 0) pe_int (fun _ _ => rfl)) (pv 1)) (pg_sub (pv 0) pe_int set_list))
        (pss_one (ps_ret (pv 2))))) pss_nil)
        (pss_cons (ps_set (i := 2) scLawRandom.nd rfl (Or.inl rfl) pe_int)
        (pss_cons (ps_for PassesOwn.never rfl (pi_range1 rfl T.range (pa_cons (pe_op op_add pe_int (pe_op op_fdivX (pe_bits (pv 1)) pe_int)) pa_nil)) (pg_name (i := 3) scLawRandom.nd rfl (Or.inl rfl)) (pss_cons (ps_asg (pe_op op_add (pe_ix ixL (pv 0) pe_int (fun _ _ => rfl)) pe_int) (pg_sub (pv 0) pe_int set_list))
        (pss_one (ps_set (i := 2) scLawRandom.nd rfl (Or.inl rfl) (pe_op op_add (pe_op op_mulU (pv 2) pe_int) (pe_d D_LawHash hr (pa_cons (pe_ix ixL (pv 0) pe_int (fun _ _ => rfl)) (pa_cons (pe_ix ixL (pv 0) pe_int (fun _ _ => rfl)) pa_nil))))))))
        (pss_one (ps_ret (pe_op op_mod (pe_callTy cr_int (by rfl) T.int (by decide +kernel) (pa_cons (pv 2) pa_nil)) (pv 1))))))), ?_⟩
    have e0 : start N_LawRandom [.ref g, .int n] = [some (.ref g), some (.int n), none, none] := rfl
    rw [e0]
    simp only [cxK, wipe, tYes, List.map_cons, List.map_nil, rIxL, rSum, tSl, rSlL, tNoPart, tPart, exists_and_left, and_assoc, V.ref.injEq, HO.lst.injEq, HO.tup.injEq, tFor_eq, iRng1, iRng2, iList, iTup, tLc_eq, tLst, tTup, gSub, rSetL, gT, gL, gTup, gCons, gNil, atI_0, atI_1, atI_2, atI_3, List.length_cons, List.length_nil, Nat.zero_add, Nat.reduceAdd, Nat.reduceLeDiff, ixN_30, ixN_31, ixN_32, Int.reduceLT, Int.reduceLE, Int.reduceNeg, upd_same, reduceCtorEq, false_and, exists_false, or_false, false_or, tSeq, tNext, tIfS, tRet, tRetN, tDrop, tAsg, gName, tPar, tPar3, tAug, ipI, tVar, tC, tOp, tUn, tCB, tD, tDK, tCons, tNil, rI, rI0, rU, tB, tTest, tAnd, tOr, tNot, tAndV, tOrV, tNotV, tIf, rEq, rNe, scal_ii, scal_bb, scal_ss, rGcd_eq, tBits, List.set_cons_zero, List.set_cons_succ, List.getElem?_cons_zero, List.getElem?_cons_succ, Option.some.injEq, exists_eq_left', V.int.injEq, V.bl.injEq, V.str.injEq, true_and, and_true, decide_eq_true_eq, List.cons.injEq, exists_eq_left, Bool.false_eq_true, if_false, if_true, ite_true, ite_false, Bool.not_eq_true', decide_eq_false_iff_not, Bool.not_not, hg]
    refine ite2 (fun hp => ?_) (fun hp => ?_)
    · refine ⟨by omega, cdiv (by omega) (by omega) (by omega), ?_⟩
      refine kk _ _ (Int.emod_nonneg _ (by omega)) (Int.emod_lt_of_pos _ (by omega)) ⟨a.fdiv n, b, c, upd_same, ?_, ?_, hb0, hb1, hc0, by omega⟩ (fun x u hx e => by rw [upd_ne hx]; exact e)
      · exact Int.fdiv_nonneg ha0 (by omega)
      · have h1 : a.fdiv n ≤ a := by
          rw [Int.fdiv_eq_ediv_of_nonneg a (by omega)]
          exact Int.ediv_le_self n ha0
        omega
    · have hib : Builtin.Int.intBits n ≤ 300 := PyProof.Rows.intBits_le (by omega)
      have hq : (0 : Int) ≤ (((Builtin.Int.intBits n : Nat) : Int).fdiv 30) ∧ (((Builtin.Int.intBits n : Nat) : Int).fdiv 30) ≤ 10 := by
        rw [Int.fdiv_eq_ediv_of_nonneg _ (by omega)]
        omega
      generalize hqe : (((Builtin.Int.intBits n : Nat) : Int).fdiv 30) = q at hq
      refine ⟨cdiv (by omega) (by omega) (by omega), by omega, by omega, ?_⟩
      refine forW_range (InvRandom g n k H) ⟨0, none, rfl, hG, Keep.refl _ _⟩ ?_ ?_
      · rintro i σ' H' hi ⟨d, t, rfl, ⟨a2, b2, c2, hg2, p1, p2, p3, p4, p5, p6⟩, kp⟩
        simp only [cxK, wipe, tYes, List.map_cons, List.map_nil, rIxL, rSum, tSl, rSlL, tNoPart, tPart, exists_and_left, and_assoc, V.ref.injEq, HO.lst.injEq, HO.tup.injEq, tFor_eq, iRng1, iRng2, iList, iTup, tLc_eq, tLst, tTup, gSub, rSetL, gT, gL, gTup, gCons, gNil, atI_0, atI_1, atI_2, atI_3, List.length_cons, List.length_nil, Nat.zero_add, Nat.reduceAdd, Nat.reduceLeDiff, ixN_30, ixN_31, ixN_32, Int.reduceLT, Int.reduceLE, Int.reduceNeg, upd_same, reduceCtorEq, false_and, exists_false, or_false, false_or, tSeq, tNext, tIfS, tRet, tRetN, tDrop, tAsg, gName, tPar, tPar3, tAug, ipI, tVar, tC, tOp, tUn, tCB, tD, tDK, tCons, tNil, rI, rI0, rU, tB, tTest, tAnd, tOr, tNot, tAndV, tOrV, tNotV, tIf, rEq, rNe, scal_ii, scal_bb, scal_ss, rGcd_eq, tBits, List.set_cons_zero, List.set_cons_succ, List.getElem?_cons_zero, List.getElem?_cons_succ, Option.some.injEq, exists_eq_left', V.int.injEq, V.bl.injEq, V.str.injEq, true_and, and_true, decide_eq_true_eq, List.cons.injEq, exists_eq_left, Bool.false_eq_true, if_false, if_true, ite_true, ite_false, Bool.not_eq_true', decide_eq_false_iff_not, Bool.not_not, hg2]
        unfold spHash
        refine ⟨cmr (by decide) (by decide), b2, c2 + 1, rfl, p3, p4, by omega, by omega, fun hh q1 q2 => ?_⟩
        simp only [cxK, wipe, tYes, List.map_cons, List.map_nil, rIxL, rSum, tSl, rSlL, tNoPart, tPart, exists_and_left, and_assoc, V.ref.injEq, HO.lst.injEq, HO.tup.injEq, tFor_eq, iRng1, iRng2, iList, iTup, tLc_eq, tLst, tTup, gSub, rSetL, gT, gL, gTup, gCons, gNil, atI_0, atI_1, atI_2, atI_3, List.length_cons, List.length_nil, Nat.zero_add, Nat.reduceAdd, Nat.reduceLeDiff, ixN_30, ixN_31, ixN_32, Int.reduceLT, Int.reduceLE, Int.reduceNeg, upd_same, reduceCtorEq, false_and, exists_false, or_false, false_or, tSeq, tNext, tIfS, tRet, tRetN, tDrop, tAsg, gName, tPar, tPar3, tAug, ipI, tVar, tC, tOp, tUn, tCB, tD, tDK, tCons, tNil, rI, rI0, rU, tB, tTest, tAnd, tOr, tNot, tAndV, tOrV, tNotV, tIf, rEq, rNe, scal_ii, scal_bb, scal_ss, rGcd_eq, tBits, List.set_cons_zero, List.set_cons_succ, List.getElem?_cons_zero, List.getElem?_cons_succ, Option.some.injEq, exists_eq_left', V.int.injEq, V.bl.injEq, V.str.injEq, true_and, and_true, decide_eq_true_eq, List.cons.injEq, exists_eq_left, Bool.false_eq_true, if_false, if_true, ite_true, ite_false, Bool.not_eq_true', decide_eq_false_iff_not, Bool.not_not]
        refine ⟨_, some (.int (0 + (i : Int))), rfl, ⟨a2, b2, c2 + 1, upd_same, p1, p2, p3, p4, by omega, by omega⟩, fun x u hx e => ?_⟩
        rw [upd_ne hx]
        exact kp x u hx e
      · rintro σ' H' ⟨d, t, rfl, gA, kp⟩
        simp only [cxK, wipe, tYes, List.map_cons, List.map_nil, rIxL, rSum, tSl, rSlL, tNoPart, tPart, exists_and_left, and_assoc, V.ref.injEq, HO.lst.injEq, HO.tup.injEq, tFor_eq, iRng1, iRng2, iList, iTup, tLc_eq, tLst, tTup, gSub, rSetL, gT, gL, gTup, gCons, gNil, atI_0, atI_1, atI_2, atI_3, List.length_cons, List.length_nil, Nat.zero_add, Nat.reduceAdd, Nat.reduceLeDiff, ixN_30, ixN_31, ixN_32, Int.reduceLT, Int.reduceLE, Int.reduceNeg, upd_same, reduceCtorEq, false_and, exists_false, or_false, false_or, tSeq, tNext, tIfS, tRet, tRetN, tDrop, tAsg, gName, tPar, tPar3, tAug, ipI, tVar, tC, tOp, tUn, tCB, tD, tDK, tCons, tNil, rI, rI0, rU, tB, tTest, tAnd, tOr, tNot, tAndV, tOrV, tNotV, tIf, rEq, rNe, scal_ii, scal_bb, scal_ss, rGcd_eq, tBits, List.set_cons_zero, List.set_cons_succ, List.getElem?_cons_zero, List.getElem?_cons_succ, Option.some.injEq, exists_eq_left', V.int.injEq, V.bl.injEq, V.str.injEq, true_and, and_true, decide_eq_true_eq, List.cons.injEq, exists_eq_left, Bool.false_eq_true, if_false, if_true, ite_true, ite_false, Bool.not_eq_true', decide_eq_false_iff_not, Bool.not_not]
        exact ⟨by omega, kk _ _ (Int.emod_nonneg _ (by omega)) (Int.emod_lt_of_pos _ (by omega)) (gA.mono (by omega)) kp⟩

theorem okLawCell {f : Addr} {fd : FuncData} (F : Fun K "_law_cell" "_law_cell" s_LawCell f fd) (T : Txt K mg) : FnOk P w K mg base CX0 1 f fd ["_law_script", "_law_index"] (spCell K) := by
  refine F.ok scLawCell (fun vs H Q E h => ?_) (fun cdv A outer s H vs Q E hr h => ?_)
  · obtain ⟨a, ns, i, rfl, _⟩ := h
    rfl
  · obtain ⟨a, ns, i, rfl, hS, h0, h1, kk⟩ := h
    refine ⟨_, (pss_cons (ps_if (pt_cmpR op_lt (pv 1) (pe_callB call_len_seq (by rfl) T.len (by decide +kernel) (pa_cons (pv 0) pa_nil)) (nomark _)) (pss_one (ps_ret (pe_ix ix_list (pv 0) (pv 1) (fun _ _ => rfl)))) pss_nil)
        (pss_one (ps_ret (pe_op op_mod (pe_callB (cr_sum rfl) (by rfl) T.sum (by decide +kernel) (pa_cons (pe_slice sl_list (pv 0) po_none (po_some pe_int)) pa_nil)) pe_int)))), ?_⟩
    have e0 : start N_LawCell [.ref a, .int i] = [some (.ref a), some (.int i)] := rfl
    rw [e0]
    simp only [cxK, wipe, tYes, List.map_cons, List.map_nil, rIxL, rSum, tSl, rSlL, tNoPart, tPart, exists_and_left, and_assoc, V.ref.injEq, HO.lst.injEq, HO.tup.injEq, tFor_eq, iRng1, iRng2, iList, iTup, tLc_eq, tLst, tTup, gSub, rSetL, gT, gL, gTup, gCons, gNil, atI_0, atI_1, atI_2, atI_3, List.length_cons, List.length_nil, Nat.zero_add, Nat.reduceAdd, Nat.reduceLeDiff, ixN_30, ixN_31, ixN_32, Int.reduceLT, Int.reduceLE, Int.reduceNeg, upd_same, reduceCtorEq, false_and, exists_false, or_false, false_or, tSeq, tNext, tIfS, tRet, tRetN, tDrop, tAsg, gName, tPar, tPar3, tAug, ipI, tVar, tC, tOp, tUn, tCB, tD, tDK, tCons, tNil, rI, rI0, rU, tB, tTest, tAnd, tOr, tNot, tAndV, tOrV, tNotV, tIf, rEq, rNe, scal_ii, scal_bb, scal_ss, rGcd_eq, tBits, List.set_cons_zero, List.set_cons_succ, List.getElem?_cons_zero, List.getElem?_cons_succ, Option.some.injEq, exists_eq_left', V.int.injEq, V.bl.injEq, V.str.injEq, true_and, and_true, decide_eq_true_eq, List.cons.injEq, exists_eq_left, Bool.false_eq_true, if_false, if_true, ite_true, ite_false, Bool.not_eq_true', decide_eq_false_iff_not, Bool.not_not]
    refine ⟨ns.map V.int, .inl hS, ite2 (fun hp => ?_) (fun hp => ?_)⟩
    · have hi : i.toNat < ns.length := by rw [List.length_map] at hp; omega
      refine ⟨ns.map V.int, hS, .int (ns[i.toNat]), ?_, kk _ _ (Same.refl _)⟩
      exact at_of (j := i.toNat) (by omega) (by rw [List.getElem?_map, List.getElem?_eq_getElem hi]; rfl)
    · refine ⟨ns.map V.int, hS, fun p np => ⟨ns.take 1, .inl (.inl ?_), kk _ _ (Same.upd np)⟩⟩
      rw [upd_same, cut1, List.map_take]

theorem okLawGenerator {f : Addr} {fd : FuncData} (F : Fun K "_law_generator" "_law_generator" s_LawGenerator f fd) (T : Txt K mg) {fLawCell : Addr} {fdLawCell : FuncData} (D_LawCell : DefAt P w K mg base 1 "_law_cell" fLawCell fdLawCell ["_law_script", "_law_index"] (spCell K)) : FnOk P w K mg base CX0 2 f fd ["_law_script", "_law_index"] (spGen K) := by
  refine F.ok scLawGenerator (fun vs H Q E h => ?_) (fun cdv A outer s H vs Q E hr h => ?_)
  · obtain ⟨a, ns, i, rfl, _⟩ := h
    rfl
  · obtain ⟨a, ns, i, rfl, hS, h0, h1, kk⟩ := h
    refine ⟨_, (pss_cons (ps_set (i := 2) scLawGenerator.nd rfl (Or.inl rfl) (pe_d D_LawCell hr (pa_cons (pv 0) (pa_cons (pv 1) pa_nil))))
        (pss_one (ps_ret (pe_lst (pa_cons (pe_op op_mod (pe_callTy cr_int (by rfl) T.int (by decide +kernel) (pa_cons (pe_callB (call_max2 rfl) (by rfl) T.max (by decide +kernel) (pa_cons (pe_op op_sub (pv 2) (pe_op op_powX pe_int pe_int)) (pa_cons pe_int pa_nil))) pa_nil)) (pe_op op_powX (pe_op op_powX pe_int pe_int) pe_int)) (pa_cons (pe_op op_mod (pe_callTy cr_int (by rfl) T.int (by decide +kernel) (pa_cons (pv 2) pa_nil)) pe_int) (pa_cons (pe_op op_mulU pe_int (pv 1)) pa_nil))))))), ?_⟩
    have e0 : start N_LawGenerator [.ref a, .int i] = [some (.ref a), some (.int i), none] := rfl
    rw [e0]
    simp only [cxK, wipe, tYes, List.map_cons, List.map_nil, rIxL, rSum, tSl, rSlL, tNoPart, tPart, exists_and_left, and_assoc, V.ref.injEq, HO.lst.injEq, HO.tup.injEq, tFor_eq, iRng1, iRng2, iList, iTup, tLc_eq, tLst, tTup, gSub, rSetL, gT, gL, gTup, gCons, gNil, atI_0, atI_1, atI_2, atI_3, List.length_cons, List.length_nil, Nat.zero_add, Nat.reduceAdd, Nat.reduceLeDiff, ixN_30, ixN_31, ixN_32, Int.reduceLT, Int.reduceLE, Int.reduceNeg, upd_same, reduceCtorEq, false_and, exists_false, or_false, false_or, tSeq, tNext, tIfS, tRet, tRetN, tDrop, tAsg, gName, tPar, tPar3, tAug, ipI, tVar, tC, tOp, tUn, tCB, tD, tDK, tCons, tNil, rI, rI0, rU, tB, tTest, tAnd, tOr, tNot, tAndV, tOrV, tNotV, tIf, rEq, rNe, scal_ii, scal_bb, scal_ss, rGcd_eq, tBits, List.set_cons_zero, List.set_cons_succ, List.getElem?_cons_zero, List.getElem?_cons_succ, Option.some.injEq, exists_eq_left', V.int.injEq, V.bl.injEq, V.str.injEq, true_and, and_true, decide_eq_true_eq, List.cons.injEq, exists_eq_left, Bool.false_eq_true, if_false, if_true, ite_true, ite_false, Bool.not_eq_true', decide_eq_false_iff_not, Bool.not_not]
    have hm : (0 : Int) < (10 ^ Int.toNat 60) ^ Int.toNat 10 := by decide +kernel
    have hm2 : ((10 : Int) ^ Int.toNat 60) ^ Int.toNat 10 < 2 ^ 2000 := by decide +kernel
    have hm3 : -(2 ^ 2500) < (10 : Int) ^ Int.toNat 60 := by decide +kernel
    have hm4 : (10 : Int) ^ Int.toNat 60 < 2 ^ 2500 := by decide +kernel
    refine ⟨a, ns, i, rfl, hS, h0, h1, fun r H1 s1 => ⟨cpow (by decide) (by decide) (by decide) (by decide), r, rfl, cpow (by decide) (by decide) (by decide) (by decide), cpow (by decide) (by decide) hm3 hm4, hm, r, rfl, cml (by decide) (by decide), by decide, fun p np => ?_⟩⟩
    refine kk p _ (s1.free np) (s1.trans (Same.upd np)) ⟨_, _, _, upd_same, Int.emod_nonneg _ (by omega), Int.lt_trans (Int.emod_lt_of_pos _ hm) hm2, by omega, by omega, by omega, by omega⟩

def InvCommon (a b : Int) (H : Hp) : SV → Hp → Prop := fun σ H2 => ∃ x y : Int, σ = [some (.int a), some (.int b), some (.int x), some (.int y)] ∧ 0 ≤ x ∧ 0 ≤ y ∧ gcdI x y = gcdI a b ∧ H2 = H

theorem okLawCommon {f : Addr} {fd : FuncData} (F : Fun K "_law_common" "_law_common" s_LawCommon f fd) (T : Txt K mg) : FnOk P w K mg base CX0 1 f fd ["_law_one", "_law_other"] (spCommon) := by
  refine F.ok scLawCommon (fun vs H Q E h => ?_) (fun cdv A outer s H vs Q E hr h => ?_)
  · obtain ⟨a, b, rfl, _⟩ := h
    rfl
  · obtain ⟨a, b, rfl, kk⟩ := h
    refine ⟨_, (pss_cons (ps_par (i := 2) (j := 3) rfl scLawCommon.nd rfl rfl (by decide) rfl rfl (pa_cons (pe_callB call_abs (by rfl) T.abs (by decide +kernel) (pa_cons (pv 0) pa_nil)) (pa_cons (pe_callB call_abs (by rfl) T.abs (by decide +kernel) (pa_cons (pv 1) pa_nil)) pa_nil)) rfl)
        (pss_cons (ps_while PassesOwn.never (pt_cmpR op_ne (pv 3) pe_int (nomark _)) (pss_one (ps_par (i := 2) (j := 3) rfl scLawCommon.nd rfl rfl (by decide) rfl rfl (pa_cons (pv 3) (pa_cons (pe_op op_mod (pe_callTy cr_int (by rfl) T.int (by decide +kernel) (pa_cons (pv 2) pa_nil)) (pv 3)) pa_nil)) rfl)))
        (pss_one (ps_ret (pv 2))))), ?_⟩
    have e0 : start N_LawCommon [.int a, .int b] = [some (.int a), some (.int b), none, none] := rfl
    rw [e0]
    simp only [cxK, wipe, tYes, List.map_cons, List.map_nil, rIxL, rSum, tSl, rSlL, tNoPart, tPart, exists_and_left, and_assoc, V.ref.injEq, HO.lst.injEq, HO.tup.injEq, tFor_eq, iRng1, iRng2, iList, iTup, tLc_eq, tLst, tTup, gSub, rSetL, gT, gL, gTup, gCons, gNil, atI_0, atI_1, atI_2, atI_3, List.length_cons, List.length_nil, Nat.zero_add, Nat.reduceAdd, Nat.reduceLeDiff, ixN_30, ixN_31, ixN_32, Int.reduceLT, Int.reduceLE, Int.reduceNeg, upd_same, reduceCtorEq, false_and, exists_false, or_false, false_or, tSeq, tNext, tIfS, tRet, tRetN, tDrop, tAsg, gName, tPar, tPar3, tAug, ipI, tVar, tC, tOp, tUn, tCB, tD, tDK, tCons, tNil, rI, rI0, rU, tB, tTest, tAnd, tOr, tNot, tAndV, tOrV, tNotV, tIf, rEq, rNe, scal_ii, scal_bb, scal_ss, rGcd_eq, tBits, List.set_cons_zero, List.set_cons_succ, List.getElem?_cons_zero, List.getElem?_cons_succ, Option.some.injEq, exists_eq_left', V.int.injEq, V.bl.injEq, V.str.injEq, true_and, and_true, decide_eq_true_eq, List.cons.injEq, exists_eq_left, Bool.false_eq_true, if_false, if_true, ite_true, ite_false, Bool.not_eq_true', decide_eq_false_iff_not, Bool.not_not]
    refine whileI (InvCommon a b H) (fun σ _ => slotN σ 3) ⟨_, _, rfl, by split <;> omega, by split <;> omega, gcdI_abs a b, rfl⟩ ?_
    rintro σ' H' ⟨x, y, rfl, hx, hy, e, rfl⟩
    simp only [cxK, wipe, tYes, List.map_cons, List.map_nil, rIxL, rSum, tSl, rSlL, tNoPart, tPart, exists_and_left, and_assoc, V.ref.injEq, HO.lst.injEq, HO.tup.injEq, tFor_eq, iRng1, iRng2, iList, iTup, tLc_eq, tLst, tTup, gSub, rSetL, gT, gL, gTup, gCons, gNil, atI_0, atI_1, atI_2, atI_3, List.length_cons, List.length_nil, Nat.zero_add, Nat.reduceAdd, Nat.reduceLeDiff, ixN_30, ixN_31, ixN_32, Int.reduceLT, Int.reduceLE, Int.reduceNeg, upd_same, reduceCtorEq, false_and, exists_false, or_false, false_or, tSeq, tNext, tIfS, tRet, tRetN, tDrop, tAsg, gName, tPar, tPar3, tAug, ipI, tVar, tC, tOp, tUn, tCB, tD, tDK, tCons, tNil, rI, rI0, rU, tB, tTest, tAnd, tOr, tNot, tAndV, tOrV, tNotV, tIf, rEq, rNe, scal_ii, scal_bb, scal_ss, rGcd_eq, tBits, List.set_cons_zero, List.set_cons_succ, List.getElem?_cons_zero, List.getElem?_cons_succ, Option.some.injEq, exists_eq_left', V.int.injEq, V.bl.injEq, V.str.injEq, true_and, and_true, decide_eq_true_eq, List.cons.injEq, exists_eq_left, Bool.false_eq_true, if_false, if_true, ite_true, ite_false, Bool.not_eq_true', decide_eq_false_iff_not, Bool.not_not]
    by_cases h : y = 0
    · subst h
      rw [if_neg (by simp)]
      rw [gcdI_zero hx] at e
      rw [e]
      exact kk
    · rw [if_pos (by simpa using h)]
      refine wstep ?_
      simp only [cxK, wipe, tYes, List.map_cons, List.map_nil, rIxL, rSum, tSl, rSlL, tNoPart, tPart, exists_and_left, and_assoc, V.ref.injEq, HO.lst.injEq, HO.tup.injEq, tFor_eq, iRng1, iRng2, iList, iTup, tLc_eq, tLst, tTup, gSub, rSetL, gT, gL, gTup, gCons, gNil, atI_0, atI_1, atI_2, atI_3, List.length_cons, List.length_nil, Nat.zero_add, Nat.reduceAdd, Nat.reduceLeDiff, ixN_30, ixN_31, ixN_32, Int.reduceLT, Int.reduceLE, Int.reduceNeg, upd_same, reduceCtorEq, false_and, exists_false, or_false, false_or, tSeq, tNext, tIfS, tRet, tRetN, tDrop, tAsg, gName, tPar, tPar3, tAug, ipI, tVar, tC, tOp, tUn, tCB, tD, tDK, tCons, tNil, rI, rI0, rU, tB, tTest, tAnd, tOr, tNot, tAndV, tOrV, tNotV, tIf, rEq, rNe, scal_ii, scal_bb, scal_ss, rGcd_eq, tBits, List.set_cons_zero, List.set_cons_succ, List.getElem?_cons_zero, List.getElem?_cons_succ, Option.some.injEq, exists_eq_left', V.int.injEq, V.bl.injEq, V.str.injEq, true_and, and_true, decide_eq_true_eq, List.cons.injEq, exists_eq_left, Bool.false_eq_true, if_false, if_true, ite_true, ite_false, Bool.not_eq_true', decide_eq_false_iff_not, Bool.not_not]
      refine ⟨by omega, ⟨y, x % y, rfl, hy, Int.emod_nonneg _ (by omega), (gcdI_step hx (by omega)).trans e, rfl⟩, ?_⟩
      show (x % y).toNat < y.toNat
      have := Int.emod_lt_of_pos x (show 0 < y by omega)
      omega

def InvRoot1 (n : Int) (H : Hp) : SV → Hp → Prop := fun σ H2 => ∃ x : Int, σ = [some (.int n), some (.int 0), some (.int x), none] ∧ 1 ≤ x ∧ x ≤ 2 * n + 1 ∧ Same H H2
def InvRoot2 (n : Int) (H : Hp) : SV → Hp → Prop := fun σ H2 => ∃ (l u : Int) (m : Option V), σ = [some (.int n), some (.int l), some (.int u), m] ∧ 0 ≤ l ∧ l < u ∧ u ≤ 2 * n + 1 ∧ l * l ≤ n ∧ n < u * u ∧ Same H H2

theorem okLawRoot {f : Addr} {fd : FuncData} (F : Fun K "_law_root" "_law_root" s_LawRoot f fd) (T : Txt K mg) : FnOk P w K mg base CX0 1 f fd ["_law_number"] (spRoot) := by
  refine F.ok scLawRoot (fun vs H Q E h => ?_) (fun cdv A outer s H vs Q E hr h => ?_)
  · obtain ⟨n, rfl, _⟩ := h
    rfl
  · obtain ⟨n, rfl, h0, h1, kk⟩ := h
    refine ⟨_, (pss_cons (ps_asg (pe_tup (pa_cons pe_int (pa_cons pe_int pa_nil))) (pg_tupT 2 rfl (pgs_cons (pg_name (i := 1) scLawRoot.nd rfl (Or.inl rfl)) (pgs_cons (pg_name (i := 2) scLawRoot.nd rfl (Or.inl rfl)) pgs_nil))))
        (pss_cons (ps_while PassesOwn.never (pt_cmpR op_le (pe_op op_mulU (pv 2) (pv 2)) (pv 0) (nomark _)) (pss_one (ps_set (i := 2) scLawRoot.nd rfl (Or.inl rfl) (pe_op op_mulU pe_int (pv 2)))))
        (pss_cons (ps_while PassesOwn.never (pt_cmpR op_gt (pe_op op_sub (pv 2) (pv 1)) pe_int (nomark _)) (pss_cons (ps_set (i := 3) scLawRoot.nd rfl (Or.inl rfl) (pe_op op_fdivX (pe_op op_add (pv 1) (pv 2)) pe_int))
        (pss_one (ps_asg (pe_ifExp (pt_cmpR op_le (pe_op op_mulU (pv 3) (pv 3)) (pv 0) (nomark _)) (pe_tup (pa_cons (pv 3) (pa_cons (pv 2) pa_nil))) (pe_tup (pa_cons (pv 1) (pa_cons (pv 3) pa_nil)))) (pg_tupT 2 rfl (pgs_cons (pg_name (i := 1) scLawRoot.nd rfl (Or.inl rfl)) (pgs_cons (pg_name (i := 2) scLawRoot.nd rfl (Or.inl rfl)) pgs_nil)))))))
        (pss_one (ps_ret (pv 1)))))), ?_⟩
    have e0 : start N_LawRoot [.int n] = [some (.int n), none, none, none] := rfl
    rw [e0]
    simp only [cxK, wipe, tYes, List.map_cons, List.map_nil, rIxL, rSum, tSl, rSlL, tNoPart, tPart, exists_and_left, and_assoc, V.ref.injEq, HO.lst.injEq, HO.tup.injEq, tFor_eq, iRng1, iRng2, iList, iTup, tLc_eq, tLst, tTup, gSub, rSetL, gT, gL, gTup, gCons, gNil, atI_0, atI_1, atI_2, atI_3, List.length_cons, List.length_nil, Nat.zero_add, Nat.reduceAdd, Nat.reduceLeDiff, ixN_30, ixN_31, ixN_32, Int.reduceLT, Int.reduceLE, Int.reduceNeg, upd_same, reduceCtorEq, false_and, exists_false, or_false, false_or, tSeq, tNext, tIfS, tRet, tRetN, tDrop, tAsg, gName, tPar, tPar3, tAug, ipI, tVar, tC, tOp, tUn, tCB, tD, tDK, tCons, tNil, rI, rI0, rU, tB, tTest, tAnd, tOr, tNot, tAndV, tOrV, tNotV, tIf, rEq, rNe, scal_ii, scal_bb, scal_ss, rGcd_eq, tBits, List.set_cons_zero, List.set_cons_succ, List.getElem?_cons_zero, List.getElem?_cons_succ, Option.some.injEq, exists_eq_left', V.int.injEq, V.bl.injEq, V.str.injEq, true_and, and_true, decide_eq_true_eq, List.cons.injEq, exists_eq_left, Bool.false_eq_true, if_false, if_true, ite_true, ite_false, Bool.not_eq_true', decide_eq_false_iff_not, Bool.not_not]
    refine ⟨by decide, fun p np => ?_⟩
    refine whileI (InvRoot1 n H) (fun σ _ => (n + 1).toNat - slotN σ 2) ⟨1, rfl, by omega, by omega, Same.upd np⟩ ?_
    rintro σ' H' ⟨x, rfl, hx, hx2, sm⟩
    simp only [cxK, wipe, tYes, List.map_cons, List.map_nil, rIxL, rSum, tSl, rSlL, tNoPart, tPart, exists_and_left, and_assoc, V.ref.injEq, HO.lst.injEq, HO.tup.injEq, tFor_eq, iRng1, iRng2, iList, iTup, tLc_eq, tLst, tTup, gSub, rSetL, gT, gL, gTup, gCons, gNil, atI_0, atI_1, atI_2, atI_3, List.length_cons, List.length_nil, Nat.zero_add, Nat.reduceAdd, Nat.reduceLeDiff, ixN_30, ixN_31, ixN_32, Int.reduceLT, Int.reduceLE, Int.reduceNeg, upd_same, reduceCtorEq, false_and, exists_false, or_false, false_or, tSeq, tNext, tIfS, tRet, tRetN, tDrop, tAsg, gName, tPar, tPar3, tAug, ipI, tVar, tC, tOp, tUn, tCB, tD, tDK, tCons, tNil, rI, rI0, rU, tB, tTest, tAnd, tOr, tNot, tAndV, tOrV, tNotV, tIf, rEq, rNe, scal_ii, scal_bb, scal_ss, rGcd_eq, tBits, List.set_cons_zero, List.set_cons_succ, List.getElem?_cons_zero, List.getElem?_cons_succ, Option.some.injEq, exists_eq_left', V.int.injEq, V.bl.injEq, V.str.injEq, true_and, and_true, decide_eq_true_eq, List.cons.injEq, exists_eq_left, Bool.false_eq_true, if_false, if_true, ite_true, ite_false, Bool.not_eq_true', decide_eq_false_iff_not, Bool.not_not]
    refine ⟨cmw (by omega) (by omega) (by omega) (by omega), ite2 (fun hc => wstep ?_) (fun hc => ?_)⟩
    · simp only [cxK, wipe, tYes, List.map_cons, List.map_nil, rIxL, rSum, tSl, rSlL, tNoPart, tPart, exists_and_left, and_assoc, V.ref.injEq, HO.lst.injEq, HO.tup.injEq, tFor_eq, iRng1, iRng2, iList, iTup, tLc_eq, tLst, tTup, gSub, rSetL, gT, gL, gTup, gCons, gNil, atI_0, atI_1, atI_2, atI_3, List.length_cons, List.length_nil, Nat.zero_add, Nat.reduceAdd, Nat.reduceLeDiff, ixN_30, ixN_31, ixN_32, Int.reduceLT, Int.reduceLE, Int.reduceNeg, upd_same, reduceCtorEq, false_and, exists_false, or_false, false_or, tSeq, tNext, tIfS, tRet, tRetN, tDrop, tAsg, gName, tPar, tPar3, tAug, ipI, tVar, tC, tOp, tUn, tCB, tD, tDK, tCons, tNil, rI, rI0, rU, tB, tTest, tAnd, tOr, tNot, tAndV, tOrV, tNotV, tIf, rEq, rNe, scal_ii, scal_bb, scal_ss, rGcd_eq, tBits, List.set_cons_zero, List.set_cons_succ, List.getElem?_cons_zero, List.getElem?_cons_succ, Option.some.injEq, exists_eq_left', V.int.injEq, V.bl.injEq, V.str.injEq, true_and, and_true, decide_eq_true_eq, List.cons.injEq, exists_eq_left, Bool.false_eq_true, if_false, if_true, ite_true, ite_false, Bool.not_eq_true', decide_eq_false_iff_not, Bool.not_not]
      have hxn : x ≤ n := Int.le_trans (by have := Int.mul_le_mul_of_nonneg_right hx (show 0 ≤ x by omega); omega) hc
      refine ⟨cml (by decide) (by decide), ⟨2 * x, rfl, by omega, by omega, sm⟩, ?_⟩
      show (n + 1).toNat - (2 * x).toNat < (n + 1).toNat - x.toNat
      omega
    · refine whileI (InvRoot2 n H) (fun σ _ => slotN σ 2 - slotN σ 1) ⟨0, x, none, rfl, by omega, by omega, hx2, by omega, by omega, sm⟩ ?_
      rintro σ' H2 ⟨l, u, m, rfl, hl, hlu, hu, q1, q2, sm2⟩
      simp only [cxK, wipe, tYes, List.map_cons, List.map_nil, rIxL, rSum, tSl, rSlL, tNoPart, tPart, exists_and_left, and_assoc, V.ref.injEq, HO.lst.injEq, HO.tup.injEq, tFor_eq, iRng1, iRng2, iList, iTup, tLc_eq, tLst, tTup, gSub, rSetL, gT, gL, gTup, gCons, gNil, atI_0, atI_1, atI_2, atI_3, List.length_cons, List.length_nil, Nat.zero_add, Nat.reduceAdd, Nat.reduceLeDiff, ixN_30, ixN_31, ixN_32, Int.reduceLT, Int.reduceLE, Int.reduceNeg, upd_same, reduceCtorEq, false_and, exists_false, or_false, false_or, tSeq, tNext, tIfS, tRet, tRetN, tDrop, tAsg, gName, tPar, tPar3, tAug, ipI, tVar, tC, tOp, tUn, tCB, tD, tDK, tCons, tNil, rI, rI0, rU, tB, tTest, tAnd, tOr, tNot, tAndV, tOrV, tNotV, tIf, rEq, rNe, scal_ii, scal_bb, scal_ss, rGcd_eq, tBits, List.set_cons_zero, List.set_cons_succ, List.getElem?_cons_zero, List.getElem?_cons_succ, Option.some.injEq, exists_eq_left', V.int.injEq, V.bl.injEq, V.str.injEq, true_and, and_true, decide_eq_true_eq, List.cons.injEq, exists_eq_left, Bool.false_eq_true, if_false, if_true, ite_true, ite_false, Bool.not_eq_true', decide_eq_false_iff_not, Bool.not_not]
      refine ite2 (fun hc2 => wstep ?_) (fun hc2 => ?_)
      · simp only [cxK, wipe, tYes, List.map_cons, List.map_nil, rIxL, rSum, tSl, rSlL, tNoPart, tPart, exists_and_left, and_assoc, V.ref.injEq, HO.lst.injEq, HO.tup.injEq, tFor_eq, iRng1, iRng2, iList, iTup, tLc_eq, tLst, tTup, gSub, rSetL, gT, gL, gTup, gCons, gNil, atI_0, atI_1, atI_2, atI_3, List.length_cons, List.length_nil, Nat.zero_add, Nat.reduceAdd, Nat.reduceLeDiff, ixN_30, ixN_31, ixN_32, Int.reduceLT, Int.reduceLE, Int.reduceNeg, upd_same, reduceCtorEq, false_and, exists_false, or_false, false_or, tSeq, tNext, tIfS, tRet, tRetN, tDrop, tAsg, gName, tPar, tPar3, tAug, ipI, tVar, tC, tOp, tUn, tCB, tD, tDK, tCons, tNil, rI, rI0, rU, tB, tTest, tAnd, tOr, tNot, tAndV, tOrV, tNotV, tIf, rEq, rNe, scal_ii, scal_bb, scal_ss, rGcd_eq, tBits, List.set_cons_zero, List.set_cons_succ, List.getElem?_cons_zero, List.getElem?_cons_succ, Option.some.injEq, exists_eq_left', V.int.injEq, V.bl.injEq, V.str.injEq, true_and, and_true, decide_eq_true_eq, List.cons.injEq, exists_eq_left, Bool.false_eq_true, if_false, if_true, ite_true, ite_false, Bool.not_eq_true', decide_eq_false_iff_not, Bool.not_not]
        have hmid : (l + u).fdiv 2 = (l + u) / 2 := Int.fdiv_eq_ediv_of_nonneg _ (by decide)
        rw [hmid]
        generalize hme : (l + u) / 2 = mm
        have hm1 : l < mm := by omega
        have hm2 : mm < u := by omega
        refine ⟨cdiv (by decide) (by decide) (by decide), cmw (by omega) (by omega) (by omega) (by omega), ite2 (fun hc3 => ?_) (fun hc3 => ?_)⟩
        · refine ⟨by decide, fun p2 np2 => ⟨⟨mm, u, _, rfl, by omega, hm2, hu, hc3, q2, sm2.trans (Same.upd np2)⟩, ?_⟩⟩
          show u.toNat - mm.toNat < u.toNat - l.toNat
          omega
        · refine ⟨by decide, fun p2 np2 => ⟨⟨l, mm, _, rfl, hl, hm1, by omega, q1, by omega, sm2.trans (Same.upd np2)⟩, ?_⟩⟩
          show mm.toNat - l.toNat < u.toNat - l.toNat
          omega
      · have e : u = l + 1 := by omega
        subst e
        rw [rt_unique h0 hl q1 q2]
        exact kk _ sm2

theorem okIsWhole {f : Addr} {fd : FuncData} (F : Fun K "is_whole" "is_whole" s_IsWhole f fd) (T : Txt K mg) : FnOk P w K mg base CX0 1 f fd ["value"] (spWhole) := by
  refine F.ok scIsWhole (fun vs H Q E h => ?_) (fun cdv A outer s H vs Q E hr h => ?_)
  · obtain ⟨x, rfl, _⟩ := h
    rfl
  · obtain ⟨x, rfl, ⟨t, ht⟩, kk⟩ := h
    refine ⟨_, (pss_one (ps_ret (pe_and (pe_callB call_isi (by rfl) T.isinstance (by decide +kernel) (pa_cons (pv 0) (pa_cons (pe_bltn (v := .ty "int") (u := .type "int") (by rfl) T.int (by decide +kernel) rfl) pa_nil))) (pe_one (pe_not (pe_callB call_isi (by rfl) T.isinstance (by decide +kernel) (pa_cons (pv 0) (pa_cons (pe_bltn (v := .ty "bool") (u := .type "bool") (by rfl) T.bool (by decide +kernel) rfl) pa_nil)))))))), ?_⟩
    have e0 : start N_IsWhole [x] = [some x] := rfl
    rw [e0]
    obtain ⟨ty, hm, hi⟩ := tyS_of (K := K) ht
    simp only [cxK, wipe, tYes, List.map_cons, List.map_nil, rIxL, rSum, tSl, rSlL, tNoPart, tPart, exists_and_left, and_assoc, V.ref.injEq, HO.lst.injEq, HO.tup.injEq, tFor_eq, iRng1, iRng2, iList, iTup, tLc_eq, tLst, tTup, gSub, rSetL, gT, gL, gTup, gCons, gNil, atI_0, atI_1, atI_2, atI_3, List.length_cons, List.length_nil, Nat.zero_add, Nat.reduceAdd, Nat.reduceLeDiff, ixN_30, ixN_31, ixN_32, Int.reduceLT, Int.reduceLE, Int.reduceNeg, upd_same, reduceCtorEq, false_and, exists_false, or_false, false_or, tSeq, tNext, tIfS, tRet, tRetN, tDrop, tAsg, gName, tPar, tPar3, tAug, ipI, tVar, tC, tOp, tUn, tCB, tD, tDK, tCons, tNil, rI, rI0, rU, tB, tTest, tAnd, tOr, tNot, tAndV, tOrV, tNotV, tIf, rEq, rNe, scal_ii, scal_bb, scal_ss, rGcd_eq, tBits, List.set_cons_zero, List.set_cons_succ, List.getElem?_cons_zero, List.getElem?_cons_succ, Option.some.injEq, exists_eq_left', V.int.injEq, V.bl.injEq, V.str.injEq, true_and, and_true, decide_eq_true_eq, List.cons.injEq, exists_eq_left, Bool.false_eq_true, if_false, if_true, ite_true, ite_false, Bool.not_eq_true', decide_eq_false_iff_not, Bool.not_not]
    simp only [List.mem_cons, List.not_mem_nil, or_false] at hm
    rw [hi] at kk
    rcases hm with rfl | rfl | rfl | rfl | rfl | rfl | rfl
    all_goals first
      | (refine rIsi_ty (b := true) ht (by decide +kernel) ?_; refine ⟨true, rfl, iteT ?_⟩; refine rIsi_ty (b := false) ht (by decide +kernel) ?_; exact ⟨false, rfl, kk⟩)
      | (refine rIsi_ty (b := true) ht (by decide +kernel) ?_; refine ⟨true, rfl, iteT ?_⟩; refine rIsi_ty (b := true) ht (by decide +kernel) ?_; exact ⟨true, rfl, kk⟩)
      | (refine rIsi_ty (b := false) ht (by decide +kernel) ?_; refine ⟨false, rfl, iteF kk⟩)

def InvWholes (H : Hp) (D : Addr) (xs : List V) : Nat → Hp → Prop := fun i H2 => Same H H2 ∧ H2 D = some (.lst ((xs.take i).map fun x => .bl (isIntV x)))

theorem okAreWholes {f : Addr} {fd : FuncData} (F : Fun K "are_wholes" "are_wholes" s_AreWholes f fd) (T : Txt K mg) {fIsWhole : Addr} {fdIsWhole : FuncData} (D_IsWhole : DefAt P w K mg base 1 "is_whole" fIsWhole fdIsWhole ["value"] (spWhole)) : FnOk P w K mg base CX0 2 f fd ["value", "many"] (spWholes) := by
  refine F.ok scAreWholes (fun vs H Q E h => ?_) (fun cdv A outer s H vs Q E hr h => ?_)
  · obtain ⟨x, m, rfl, _⟩ := h
    rfl
  · obtain ⟨x, m, rfl, hm, ⟨hO, hI⟩, kk⟩ := h
    refine ⟨_, (pss_cons (ps_if (PW.pt (pw_or (pt_not (pt_val (pe_callB call_isi (by rfl) T.isinstance (by decide +kernel) (pa_cons (pv 0) (pa_cons (pe_bltn (v := .ty "tuple") (u := .type "tuple") (by rfl) T.tuple (by decide +kernel) rfl) pa_nil))))) (pw_or1 (pt_cmpR op_ne (pe_callB lenT (by rfl) T.len (by decide +kernel) (pa_cons (pv 0) pa_nil)) (pv 1) (nomark _))))) (pss_one (ps_ret pe_bl)) pss_nil)
        (pss_one (ps_ret (pe_callB (cr_all rfl) (by rfl) T.all (by decide +kernel) (pa_cons (pe_lc (own := [("item", 2)]) (g := gName 2) (tt := tYes) rfl scAreWholes.nd (pi_tup (pv 0)) (blkOk_by (N := N_AreWholes) (sc := defScope s_AreWholes) (by decide +kernel)) (fun _ _ _ _ _ => pg_name (i := 2) scAreWholes.nd rfl (Or.inl rfl)) (fun _ _ _ _ _ => pts_nil) (fun _ _ _ _ _ => (pe_d D_IsWhole hr (pa_cons (pv 2) pa_nil)))) pa_nil))))), ?_⟩
    have e0 : start N_AreWholes [x, .int m] = [some x, some (.int m), none] := rfl
    rw [e0]
    simp only [cxK, wipe, tYes, List.map_cons, List.map_nil, rIxL, rSum, tSl, rSlL, tNoPart, tPart, exists_and_left, and_assoc, V.ref.injEq, HO.lst.injEq, HO.tup.injEq, tFor_eq, iRng1, iRng2, iList, iTup, tLc_eq, tLst, tTup, gSub, rSetL, gT, gL, gTup, gCons, gNil, atI_0, atI_1, atI_2, atI_3, List.length_cons, List.length_nil, Nat.zero_add, Nat.reduceAdd, Nat.reduceLeDiff, ixN_30, ixN_31, ixN_32, Int.reduceLT, Int.reduceLE, Int.reduceNeg, upd_same, reduceCtorEq, false_and, exists_false, or_false, false_or, tSeq, tNext, tIfS, tRet, tRetN, tDrop, tAsg, gName, tPar, tPar3, tAug, ipI, tVar, tC, tOp, tUn, tCB, tD, tDK, tCons, tNil, rI, rI0, rU, tB, tTest, tAnd, tOr, tNot, tAndV, tOrV, tNotV, tIf, rEq, rNe, scal_ii, scal_bb, scal_ss, rGcd_eq, tBits, List.set_cons_zero, List.set_cons_succ, List.getElem?_cons_zero, List.getElem?_cons_succ, Option.some.injEq, exists_eq_left', V.int.injEq, V.bl.injEq, V.str.injEq, true_and, and_true, decide_eq_true_eq, List.cons.injEq, exists_eq_left, Bool.false_eq_true, if_false, if_true, ite_true, ite_false, Bool.not_eq_true', decide_eq_false_iff_not, Bool.not_not]
    rcases any_tuple K hO with ⟨t, ht, hb, hne⟩ | ⟨a, xs, rfl, ha⟩
    · refine rIsi_ty ht hb ⟨false, rfl, ?_⟩
      rw [if_pos rfl]
      rw [wholes_not ht hne] at kk
      exact kk _ (Same.refl _)
    · refine rIsi_ty (b := true) (tyS_tup ha) (by decide +kernel) ⟨true, rfl, ?_⟩
      rw [if_neg (by decide)]
      rw [wholes_tup ha] at kk
      simp only [cxK, wipe, tYes, List.map_cons, List.map_nil, rIxL, rSum, tSl, rSlL, tNoPart, tPart, exists_and_left, and_assoc, V.ref.injEq, HO.lst.injEq, HO.tup.injEq, tFor_eq, iRng1, iRng2, iList, iTup, tLc_eq, tLst, tTup, gSub, rSetL, gT, gL, gTup, gCons, gNil, atI_0, atI_1, atI_2, atI_3, List.length_cons, List.length_nil, Nat.zero_add, Nat.reduceAdd, Nat.reduceLeDiff, ixN_30, ixN_31, ixN_32, Int.reduceLT, Int.reduceLE, Int.reduceNeg, upd_same, reduceCtorEq, false_and, exists_false, or_false, false_or, tSeq, tNext, tIfS, tRet, tRetN, tDrop, tAsg, gName, tPar, tPar3, tAug, ipI, tVar, tC, tOp, tUn, tCB, tD, tDK, tCons, tNil, rI, rI0, rU, tB, tTest, tAnd, tOr, tNot, tAndV, tOrV, tNotV, tIf, rEq, rNe, scal_ii, scal_bb, scal_ss, rGcd_eq, tBits, List.set_cons_zero, List.set_cons_succ, List.getElem?_cons_zero, List.getElem?_cons_succ, Option.some.injEq, exists_eq_left', V.int.injEq, V.bl.injEq, V.str.injEq, true_and, and_true, decide_eq_true_eq, List.cons.injEq, exists_eq_left, Bool.false_eq_true, if_false, if_true, ite_true, ite_false, Bool.not_eq_true', decide_eq_false_iff_not, Bool.not_not, ha]
      refine ite2 (fun hn => ?_) (fun hn => ?_)
      · rw [decide_eq_false hn, Bool.false_and] at kk
        exact kk _ (Same.refl _)
      · have hn2 := Decidable.not_not.mp hn
        rw [decide_eq_true hn2, Bool.true_and] at kk
        refine ⟨⟨_, SqT.of ha⟩, fun Dd nD => ?_⟩
        refine lcW_tup (xs := xs) (InvWholes H Dd xs) ⟨Same.upd nD, upd_same⟩ (fun i H2 _ z => SqT.of (z.1 _ _ ha)) ?_ ?_
        · rintro i x H2 hx ⟨s2, e2⟩
          refine ⟨rfl, ?_⟩
          have hmem : x ∈ xs := List.mem_of_getElem? hx
          simp only [cxK, wipe, tYes, List.map_cons, List.map_nil, rIxL, rSum, tSl, rSlL, tNoPart, tPart, exists_and_left, and_assoc, V.ref.injEq, HO.lst.injEq, HO.tup.injEq, tFor_eq, iRng1, iRng2, iList, iTup, tLc_eq, tLst, tTup, gSub, rSetL, gT, gL, gTup, gCons, gNil, atI_0, atI_1, atI_2, atI_3, List.length_cons, List.length_nil, Nat.zero_add, Nat.reduceAdd, Nat.reduceLeDiff, ixN_30, ixN_31, ixN_32, Int.reduceLT, Int.reduceLE, Int.reduceNeg, upd_same, reduceCtorEq, false_and, exists_false, or_false, false_or, tSeq, tNext, tIfS, tRet, tRetN, tDrop, tAsg, gName, tPar, tPar3, tAug, ipI, tVar, tC, tOp, tUn, tCB, tD, tDK, tCons, tNil, rI, rI0, rU, tB, tTest, tAnd, tOr, tNot, tAndV, tOrV, tNotV, tIf, rEq, rNe, scal_ii, scal_bb, scal_ss, rGcd_eq, tBits, List.set_cons_zero, List.set_cons_succ, List.getElem?_cons_zero, List.getElem?_cons_succ, Option.some.injEq, exists_eq_left', V.int.injEq, V.bl.injEq, V.str.injEq, true_and, and_true, decide_eq_true_eq, List.cons.injEq, exists_eq_left, Bool.false_eq_true, if_false, if_true, ite_true, ite_false, Bool.not_eq_true', decide_eq_false_iff_not, Bool.not_not]
          refine ⟨x, rfl, (hI a xs rfl ha x hmem).same s2, ?_⟩
          refine ⟨_, e2, small1000 ?_, Same.upd2 s2 nD, ?_⟩
          · rw [List.length_map, List.length_take]
            omega
          · have e3 : xs.take (i + 1) = xs.take i ++ [x] := by rw [List.take_succ, hx]; rfl
            rw [upd_same, e3, List.map_append]
            rfl
        · rintro H2 ⟨s2, e2⟩
          refine ⟨Dd, xs.map isIntV, rfl, SqL.of ?_, ?_⟩
          · rw [e2, List.take_length, List.map_map]
            rfl
          · rw [List.all_map]
            exact kk _ s2

theorem okIsMeasure {f : Addr} {fd : FuncData} (F : Fun K "is_measure" "is_measure" s_IsMeasure f fd) (T : Txt K mg) {fIsWhole : Addr} {fdIsWhole : FuncData} (D_IsWhole : DefAt P w K mg base 1 "is_whole" fIsWhole fdIsWhole ["value"] (spWhole)) : FnOk P w K mg base CX0 2 f fd ["value"] (spIsMeasure) := by
  refine F.ok scIsMeasure (fun vs H Q E h => ?_) (fun cdv A outer s H vs Q E hr h => ?_)
  · obtain ⟨x, rfl, _⟩ := h
    rfl
  · obtain ⟨x, rfl, hO, kk⟩ := h
    refine ⟨_, (pss_one (ps_ret (pe_and (pe_d D_IsWhole hr (pa_cons (pv 0) pa_nil)) (pe_and (pe_cmpR op_ge (pv 0) pe_int (nomark _)) (pe_one (pe_cmpR op_lt (pe_op op_mod (pv 0) pe_int) pe_int (nomark _))))))), ?_⟩
    have e0 : start N_IsMeasure [x] = [some x] := rfl
    rw [e0]
    simp only [cxK, wipe, tYes, List.map_cons, List.map_nil, rIxL, rSum, tSl, rSlL, tNoPart, tPart, exists_and_left, and_assoc, V.ref.injEq, HO.lst.injEq, HO.tup.injEq, tFor_eq, iRng1, iRng2, iList, iTup, tLc_eq, tLst, tTup, gSub, rSetL, gT, gL, gTup, gCons, gNil, atI_0, atI_1, atI_2, atI_3, List.length_cons, List.length_nil, Nat.zero_add, Nat.reduceAdd, Nat.reduceLeDiff, ixN_30, ixN_31, ixN_32, Int.reduceLT, Int.reduceLE, Int.reduceNeg, upd_same, reduceCtorEq, false_and, exists_false, or_false, false_or, tSeq, tNext, tIfS, tRet, tRetN, tDrop, tAsg, gName, tPar, tPar3, tAug, ipI, tVar, tC, tOp, tUn, tCB, tD, tDK, tCons, tNil, rI, rI0, rU, tB, tTest, tAnd, tOr, tNot, tAndV, tOrV, tNotV, tIf, rEq, rNe, scal_ii, scal_bb, scal_ss, rGcd_eq, tBits, List.set_cons_zero, List.set_cons_succ, List.getElem?_cons_zero, List.getElem?_cons_succ, Option.some.injEq, exists_eq_left', V.int.injEq, V.bl.injEq, V.str.injEq, true_and, and_true, decide_eq_true_eq, List.cons.injEq, exists_eq_left, Bool.false_eq_true, if_false, if_true, ite_true, ite_false, Bool.not_eq_true', decide_eq_false_iff_not, Bool.not_not]
    refine ⟨x, rfl, hO, isIntV x, rfl, ?_⟩
    cases x with
    | int i =>
      refine iteT ⟨i, rfl, ite2 (fun h5 => ⟨i, rfl, ?_⟩) (fun h5 => ?_)⟩
      · have e : measB (.int i) = decide (i % 4 < 2) := by rw [measB_int, decide_eq_true h5, Bool.true_and]
        rw [e] at kk
        exact kk
      · have e : measB (.int i) = false := by rw [measB_int, decide_eq_false h5, Bool.false_and]
        rw [e] at kk
        exact kk
    | _ => exact iteF kk

theorem okCheckMeasure {f : Addr} {fd : FuncData} (F : Fun K "check_measure" "check_measure" s_CheckMeasure f fd) (T : Txt K mg) {fIsMeasure : Addr} {fdIsMeasure : FuncData} (D_IsMeasure : DefAt P w K mg base 2 "is_measure" fIsMeasure fdIsMeasure ["value"] (spIsMeasure)) : FnOk P w K mg base CX0 3 f fd ["measure"] (spCheckMeasure0) := by
  refine F.ok scCheckMeasure (fun vs H Q E h => ?_) (fun cdv A outer s H vs Q E hr h => ?_)
  · obtain ⟨D, rfl, _⟩ := h
    rfl
  · obtain ⟨D, rfl, ⟨h1, h2⟩, kk⟩ := h
    refine ⟨_, (pss_one (ps_if (pt_not (pt_val (pe_d D_IsMeasure hr (pa_cons (pv 0) pa_nil)))) (pss_one ps_never) pss_nil)), ?_⟩
    have e0 : start N_CheckMeasure [.int D] = [some (.int D)] := rfl
    rw [e0]
    simp only [cxK, wipe, tYes, List.map_cons, List.map_nil, rIxL, rSum, tSl, rSlL, tNoPart, tPart, exists_and_left, and_assoc, V.ref.injEq, HO.lst.injEq, HO.tup.injEq, tFor_eq, iRng1, iRng2, iList, iTup, tLc_eq, tLst, tTup, gSub, rSetL, gT, gL, gTup, gCons, gNil, atI_0, atI_1, atI_2, atI_3, List.length_cons, List.length_nil, Nat.zero_add, Nat.reduceAdd, Nat.reduceLeDiff, ixN_30, ixN_31, ixN_32, Int.reduceLT, Int.reduceLE, Int.reduceNeg, upd_same, reduceCtorEq, false_and, exists_false, or_false, false_or, tSeq, tNext, tIfS, tRet, tRetN, tDrop, tAsg, gName, tPar, tPar3, tAug, ipI, tVar, tC, tOp, tUn, tCB, tD, tDK, tCons, tNil, rI, rI0, rU, tB, tTest, tAnd, tOr, tNot, tAndV, tOrV, tNotV, tIf, rEq, rNe, scal_ii, scal_bb, scal_ss, rGcd_eq, tBits, List.set_cons_zero, List.set_cons_succ, List.getElem?_cons_zero, List.getElem?_cons_succ, Option.some.injEq, exists_eq_left', V.int.injEq, V.bl.injEq, V.str.injEq, true_and, and_true, decide_eq_true_eq, List.cons.injEq, exists_eq_left, Bool.false_eq_true, if_false, if_true, ite_true, ite_false, Bool.not_eq_true', decide_eq_false_iff_not, Bool.not_not]
    have e : measB (.int D) = true := by rw [measB_int, decide_eq_true h1, decide_eq_true h2]; rfl
    refine ⟨.int D, rfl, ⟨"int", rfl⟩, ?_⟩
    rw [e]
    refine ⟨true, rfl, ?_⟩
    rw [if_neg (by decide)]
    exact kk

theorem okHasWholeRoot {f : Addr} {fd : FuncData} (F : Fun K "_has_whole_root" "_has_whole_root" s_HasWholeRoot f fd) (T : Txt K mg) : FnOk P w K mg base CX0 1 f fd ["measure"] (spHasRoot) := by
  refine F.ok scHasWholeRoot (fun vs H Q E h => ?_) (fun cdv A outer s H vs Q E hr h => ?_)
  · obtain ⟨D, rfl, _⟩ := h
    rfl
  · obtain ⟨D, rfl, h0, h1, kk⟩ := h
    refine ⟨_, (pss_cons (ps_set (i := 1) scHasWholeRoot.nd rfl (Or.inl rfl) (pe_callBfun cr_isqrt (by rfl) T.isqrt (pa_cons (pv 0) pa_nil)))
        (pss_one (ps_ret (pe_cmpR op_eq (pe_op op_mulU (pv 1) (pv 1)) (pv 0) (nomark _))))), ?_⟩
    have e0 : start N_HasWholeRoot [.int D] = [some (.int D), none] := rfl
    rw [e0]
    simp only [cxK, wipe, tYes, List.map_cons, List.map_nil, rIxL, rSum, tSl, rSlL, tNoPart, tPart, exists_and_left, and_assoc, V.ref.injEq, HO.lst.injEq, HO.tup.injEq, tFor_eq, iRng1, iRng2, iList, iTup, tLc_eq, tLst, tTup, gSub, rSetL, gT, gL, gTup, gCons, gNil, atI_0, atI_1, atI_2, atI_3, List.length_cons, List.length_nil, Nat.zero_add, Nat.reduceAdd, Nat.reduceLeDiff, ixN_30, ixN_31, ixN_32, Int.reduceLT, Int.reduceLE, Int.reduceNeg, upd_same, reduceCtorEq, false_and, exists_false, or_false, false_or, tSeq, tNext, tIfS, tRet, tRetN, tDrop, tAsg, gName, tPar, tPar3, tAug, ipI, tVar, tC, tOp, tUn, tCB, tD, tDK, tCons, tNil, rI, rI0, rU, tB, tTest, tAnd, tOr, tNot, tAndV, tOrV, tNotV, tIf, rEq, rNe, scal_ii, scal_bb, scal_ss, rGcd_eq, tBits, List.set_cons_zero, List.set_cons_succ, List.getElem?_cons_zero, List.getElem?_cons_succ, Option.some.injEq, exists_eq_left', V.int.injEq, V.bl.injEq, V.str.injEq, true_and, and_true, decide_eq_true_eq, List.cons.injEq, exists_eq_left, Bool.false_eq_true, if_false, if_true, ite_true, ite_false, Bool.not_eq_true', decide_eq_false_iff_not, Bool.not_not]
    have e : decide (rt D * rt D = D) = decide (Sq D) := by simp only [Sq]
    obtain ⟨s0, s1, s2⟩ := rt_spec h0
    have hle : rt D ≤ D := by
      by_cases h : rt D ≤ 0
      · omega
      · have := Int.mul_le_mul_of_nonneg_right (show 1 ≤ rt D by omega) s0
        omega
    refine ⟨h0, lg (by omega), cmw (by omega) (by omega) (by omega) (by omega), ?_⟩
    rw [e]
    exact kk

theorem okIsRootOf {f : Addr} {fd : FuncData} (F : Fun K "_is_root_of" "_is_root_of" s_IsRootOf f fd) (T : Txt K mg) {fAreWholes : Addr} {fdAreWholes : FuncData} (D_AreWholes : DefAt P w K mg base 2 "are_wholes" fAreWholes fdAreWholes ["value", "many"] (spWholes)) {fHasWholeRoot : Addr} {fdHasWholeRoot : FuncData} (D_HasWholeRoot : DefAt P w K mg base 1 "_has_whole_root" fHasWholeRoot fdHasWholeRoot ["measure"] (spHasRoot)) : FnOk P w K mg base CX0 3 f fd ["measure", "value"] (spIsRootOf) := by
  refine F.ok scIsRootOf (fun vs H Q E h => ?_) (fun cdv A outer s H vs Q E hr h => ?_)
  · obtain ⟨D, x, rfl, _⟩ := h
    rfl
  · obtain ⟨D, x, rfl, h0, h1, hV, kk⟩ := h
    refine ⟨_, (pss_cons (ps_if (pt_not (pt_val (pe_d D_AreWholes hr (pa_cons (pv 1) (pa_cons pe_int pa_nil))))) (pss_one (ps_ret pe_bl)) pss_nil)
        (pss_cons (ps_asg (pv 1) (pg_tupT 3 rfl (pgs_cons (pg_name (i := 2) scIsRootOf.nd rfl (Or.inl rfl)) (pgs_cons (pg_name (i := 3) scIsRootOf.nd rfl (Or.inl rfl)) (pgs_cons (pg_name (i := 4) scIsRootOf.nd rfl (Or.inl rfl)) pgs_nil)))))
        (pss_cons (ps_if (PW.pt (pw_or (pt_cmpR op_lt (pv 4) pe_int (nomark _)) (pw_or1 (pt_cmpR op_gt (pe_callBfun cr_gcd (by rfl) T.gcd (pa_cons (pe_callBfun cr_gcd (by rfl) T.gcd (pa_cons (pv 2) (pa_cons (pv 3) pa_nil))) (pa_cons (pv 4) pa_nil))) pe_int (nomark _))))) (pss_one (ps_ret pe_bl)) pss_nil)
        (pss_one (ps_ret (pe_or (pe_cmpR op_eq (pv 3) pe_int (nomark _)) (pe_one (pe_not (pe_d D_HasWholeRoot hr (pa_cons (pv 0) pa_nil)))))))))), ?_⟩
    have e0 : start N_IsRootOf [.int D, x] = [some (.int D), some x, none, none, none] := rfl
    rw [e0]
    simp only [cxK, wipe, tYes, List.map_cons, List.map_nil, rIxL, rSum, tSl, rSlL, tNoPart, tPart, exists_and_left, and_assoc, V.ref.injEq, HO.lst.injEq, HO.tup.injEq, tFor_eq, iRng1, iRng2, iList, iTup, tLc_eq, tLst, tTup, gSub, rSetL, gT, gL, gTup, gCons, gNil, atI_0, atI_1, atI_2, atI_3, List.length_cons, List.length_nil, Nat.zero_add, Nat.reduceAdd, Nat.reduceLeDiff, ixN_30, ixN_31, ixN_32, Int.reduceLT, Int.reduceLE, Int.reduceNeg, upd_same, reduceCtorEq, false_and, exists_false, or_false, false_or, tSeq, tNext, tIfS, tRet, tRetN, tDrop, tAsg, gName, tPar, tPar3, tAug, ipI, tVar, tC, tOp, tUn, tCB, tD, tDK, tCons, tNil, rI, rI0, rU, tB, tTest, tAnd, tOr, tNot, tAndV, tOrV, tNotV, tIf, rEq, rNe, scal_ii, scal_bb, scal_ss, rGcd_eq, tBits, List.set_cons_zero, List.set_cons_succ, List.getElem?_cons_zero, List.getElem?_cons_succ, Option.some.injEq, exists_eq_left', V.int.injEq, V.bl.injEq, V.str.injEq, true_and, and_true, decide_eq_true_eq, List.cons.injEq, exists_eq_left, Bool.false_eq_true, if_false, if_true, ite_true, ite_false, Bool.not_eq_true', decide_eq_false_iff_not, Bool.not_not]
    refine ⟨x, 3, rfl, by decide, hV, fun H1 s1 => ⟨_, rfl, ?_⟩⟩
    cases hw : wholesB H 3 x with
    | false =>
      rw [if_pos rfl]
      rw [rootB_not hw] at kk
      exact kk _ s1
    | true =>
      rw [if_neg (by decide)]
      obtain ⟨a, i, j, l, rfl, ha⟩ := wholes3 hw
      rw [rootB3 ha] at kk
      have e1 := s1 _ _ ha
      simp only [cxK, wipe, tYes, List.map_cons, List.map_nil, rIxL, rSum, tSl, rSlL, tNoPart, tPart, exists_and_left, and_assoc, V.ref.injEq, HO.lst.injEq, HO.tup.injEq, tFor_eq, iRng1, iRng2, iList, iTup, tLc_eq, tLst, tTup, gSub, rSetL, gT, gL, gTup, gCons, gNil, atI_0, atI_1, atI_2, atI_3, List.length_cons, List.length_nil, Nat.zero_add, Nat.reduceAdd, Nat.reduceLeDiff, ixN_30, ixN_31, ixN_32, Int.reduceLT, Int.reduceLE, Int.reduceNeg, upd_same, reduceCtorEq, false_and, exists_false, or_false, false_or, tSeq, tNext, tIfS, tRet, tRetN, tDrop, tAsg, gName, tPar, tPar3, tAug, ipI, tVar, tC, tOp, tUn, tCB, tD, tDK, tCons, tNil, rI, rI0, rU, tB, tTest, tAnd, tOr, tNot, tAndV, tOrV, tNotV, tIf, rEq, rNe, scal_ii, scal_bb, scal_ss, rGcd_eq, tBits, List.set_cons_zero, List.set_cons_succ, List.getElem?_cons_zero, List.getElem?_cons_succ, Option.some.injEq, exists_eq_left', V.int.injEq, V.bl.injEq, V.str.injEq, true_and, and_true, decide_eq_true_eq, List.cons.injEq, exists_eq_left, Bool.false_eq_true, if_false, if_true, ite_true, ite_false, Bool.not_eq_true', decide_eq_false_iff_not, Bool.not_not, e1]
      refine ite2 (fun hl => ?_) (fun hl => ?_)
      · rw [decide_eq_false (show ¬ 1 ≤ l by omega), Bool.false_and] at kk
        exact kk _ s1
      · rw [decide_eq_true (show 1 ≤ l by omega), Bool.true_and] at kk
        refine ite2 (fun hg => ?_) (fun hg => ?_)
        · rw [decide_eq_false (show ¬ gcdI (gcdI i j) l ≤ 1 by omega), Bool.false_and] at kk
          exact kk _ s1
        · rw [decide_eq_true (show gcdI (gcdI i j) l ≤ 1 by omega), Bool.true_and] at kk
          refine ite2 (fun hj => ?_) (fun hj => ?_)
          · rw [decide_eq_true hj, Bool.true_or] at kk
            exact kk _ s1
          · rw [decide_eq_false hj, Bool.false_or] at kk
            exact ⟨D, rfl, h0, h1, _, rfl, kk _ s1⟩

theorem okReduced {f : Addr} {fd : FuncData} (F : Fun K "_reduced" "_reduced" s_Reduced f fd) (T : Txt K mg) {fHasWholeRoot : Addr} {fdHasWholeRoot : FuncData} (D_HasWholeRoot : DefAt P w K mg base 1 "_has_whole_root" fHasWholeRoot fdHasWholeRoot ["measure"] (spHasRoot)) : FnOk P w K mg base CX0 2 f fd ["measure", "x", "y", "below"] (spReduced) := by
  refine F.ok scReduced (fun vs H Q E h => ?_) (fun cdv A outer s H vs Q E hr h => ?_)
  · obtain ⟨D, x, y, b, rfl, _⟩ := h
    rfl
  · obtain ⟨D, x, y, b, rfl, h0, h1, hx, hy, hb, hb0, kk⟩ := h
    refine ⟨_, (pss_cons (ps_if (pt_val (pe_d D_HasWholeRoot hr (pa_cons (pv 0) pa_nil))) (pss_cons (ps_aug (i := 1) scReduced.nd rfl (Or.inl rfl) (pe_op op_mulU (pv 2) (pe_callBfun cr_isqrt (by rfl) T.isqrt (pa_cons (pv 0) pa_nil))) ip_add)
        (pss_one (ps_set (i := 2) scReduced.nd rfl (Or.inl rfl) pe_int))) pss_nil)
        (pss_cons (ps_set (i := 4) scReduced.nd rfl (Or.inl rfl) (pe_callBfun cr_gcd (by rfl) T.gcd (pa_cons (pe_callBfun cr_gcd (by rfl) T.gcd (pa_cons (pv 1) (pa_cons (pv 2) pa_nil))) (pa_cons (pv 3) pa_nil))))
        (pss_cons (ps_if (pt_cmpR op_lt (pv 3) pe_int (nomark _)) (pss_one (ps_set (i := 4) scReduced.nd rfl (Or.inl rfl) (pe_un un_neg (pv 4)))) pss_nil)
        (pss_one (ps_ret (pe_tup (pa_cons (pe_op op_fdivX (pv 1) (pv 4)) (pa_cons (pe_op op_fdivX (pv 2) (pv 4)) (pa_cons (pe_op op_fdivX (pv 3) (pv 4)) pa_nil))))))))), ?_⟩
    have e0 : start N_Reduced [.int D, .int x, .int y, .int b] = [some (.int D), some (.int x), some (.int y), some (.int b), none] := rfl
    rw [e0]
    simp only [cxK, wipe, tYes, List.map_cons, List.map_nil, rIxL, rSum, tSl, rSlL, tNoPart, tPart, exists_and_left, and_assoc, V.ref.injEq, HO.lst.injEq, HO.tup.injEq, tFor_eq, iRng1, iRng2, iList, iTup, tLc_eq, tLst, tTup, gSub, rSetL, gT, gL, gTup, gCons, gNil, atI_0, atI_1, atI_2, atI_3, List.length_cons, List.length_nil, Nat.zero_add, Nat.reduceAdd, Nat.reduceLeDiff, ixN_30, ixN_31, ixN_32, Int.reduceLT, Int.reduceLE, Int.reduceNeg, upd_same, reduceCtorEq, false_and, exists_false, or_false, false_or, tSeq, tNext, tIfS, tRet, tRetN, tDrop, tAsg, gName, tPar, tPar3, tAug, ipI, tVar, tC, tOp, tUn, tCB, tD, tDK, tCons, tNil, rI, rI0, rU, tB, tTest, tAnd, tOr, tNot, tAndV, tOrV, tNotV, tIf, rEq, rNe, scal_ii, scal_bb, scal_ss, rGcd_eq, tBits, List.set_cons_zero, List.set_cons_succ, List.getElem?_cons_zero, List.getElem?_cons_succ, Option.some.injEq, exists_eq_left', V.int.injEq, V.bl.injEq, V.str.injEq, true_and, and_true, decide_eq_true_eq, List.cons.injEq, exists_eq_left, Bool.false_eq_true, if_false, if_true, ite_true, ite_false, Bool.not_eq_true', decide_eq_false_iff_not, Bool.not_not]
    refine ⟨D, rfl, h0, by omega, _, rfl, ?_⟩
    obtain ⟨s0, s1', s2⟩ := rt_spec h0
    have hle : rt D ≤ D := by
      by_cases h : rt D ≤ 0
      · omega
      · have := Int.mul_le_mul_of_nonneg_right (show 1 ≤ rt D by omega) s0
        omega
    by_cases hs : rt D * rt D = D
    · rw [if_pos (show decide (Sq D) = true from decide_eq_true hs)]
      refine ⟨h0, lg (by omega), cmw (by omega) (by omega) (by omega) (by omega), ?_⟩
      have hred : red (x + y * rt D) 0 b = least D x y b := by unfold least; rw [if_pos hs]
      have hl0 := lsg_ne (x := x + y * rt D) (y := 0) hb0
      have hl1 := lsg_size (x := x + y * rt D) (y := 0) hb0
      have dv : DivOk (lsg (x + y * rt D) (0) b) := cdiv hl0 (by omega) (by omega)
      refine ite2 (fun hn => ?_) (fun hn => ?_)
      · have e : -gcdI (gcdI (x + y * rt D) (0)) b = lsg (x + y * rt D) (0) b := by unfold lsg; rw [if_pos hn, Int.zero_sub]
        rw [e]
        refine ⟨dv, dv, dv, by decide, fun p np => kk p _ np (Same.upd np) ?_⟩
        rw [upd_same, ← hred]
        rfl
      · have e : gcdI (gcdI (x + y * rt D) (0)) b = lsg (x + y * rt D) (0) b := by unfold lsg; rw [if_neg hn]
        rw [e]
        refine ⟨dv, dv, dv, by decide, fun p np => kk p _ np (Same.upd np) ?_⟩
        rw [upd_same, ← hred]
        rfl
    · rw [if_neg (show ¬ decide (Sq D) = true from by rw [decide_eq_true_eq]; exact hs)]
      have hred : red x y b = least D x y b := by unfold least; rw [if_neg hs]
      have hl0 := lsg_ne (x := x) (y := y) hb0
      have hl1 := lsg_size (x := x) (y := y) hb0
      have dv : DivOk (lsg (x) (y) b) := cdiv hl0 (by omega) (by omega)
      refine ite2 (fun hn => ?_) (fun hn => ?_)
      · have e : -gcdI (gcdI (x) (y)) b = lsg (x) (y) b := by unfold lsg; rw [if_pos hn, Int.zero_sub]
        rw [e]
        refine ⟨dv, dv, dv, by decide, fun p np => kk p _ np (Same.upd np) ?_⟩
        rw [upd_same, ← hred]
        rfl
      · have e : gcdI (gcdI (x) (y)) b = lsg (x) (y) b := by unfold lsg; rw [if_neg hn]
        rw [e]
        refine ⟨dv, dv, dv, by decide, fun p np => kk p _ np (Same.upd np) ?_⟩
        rw [upd_same, ← hred]
        rfl

theorem okIsRoot {f : Addr} {fd : FuncData} (F : Fun K "is_root" "is_root" s_IsRoot f fd) (T : Txt K mg) {fCheckMeasure : Addr} {fdCheckMeasure : FuncData} (D_CheckMeasure : DefAt P w K mg base 3 "check_measure" fCheckMeasure fdCheckMeasure ["measure"] (spCheckMeasure0)) {fIsRootOf : Addr} {fdIsRootOf : FuncData} (D_IsRootOf : DefAt P w K mg base 3 "_is_root_of" fIsRootOf fdIsRootOf ["measure", "value"] (spIsRootOf)) : FnOk P w K mg base CX0 4 f fd ["measure", "value"] (spIsRoot) := by
  refine F.ok scIsRoot (fun vs H Q E h => ?_) (fun cdv A outer s H vs Q E hr h => ?_)
  · obtain ⟨D, x, rfl, _⟩ := h
    rfl
  · obtain ⟨D, x, rfl, hM, hD, hV, kk⟩ := h
    refine ⟨_, (pss_cons (ps_expr (pe_d D_CheckMeasure hr (pa_cons (pv 0) pa_nil)))
        (pss_one (ps_ret (pe_d D_IsRootOf hr (pa_cons (pv 0) (pa_cons (pv 1) pa_nil)))))), ?_⟩
    have e0 : start N_IsRoot [.int D, x] = [some (.int D), some x] := rfl
    rw [e0]
    simp only [cxK, wipe, tYes, List.map_cons, List.map_nil, rIxL, rSum, tSl, rSlL, tNoPart, tPart, exists_and_left, and_assoc, V.ref.injEq, HO.lst.injEq, HO.tup.injEq, tFor_eq, iRng1, iRng2, iList, iTup, tLc_eq, tLst, tTup, gSub, rSetL, gT, gL, gTup, gCons, gNil, atI_0, atI_1, atI_2, atI_3, List.length_cons, List.length_nil, Nat.zero_add, Nat.reduceAdd, Nat.reduceLeDiff, ixN_30, ixN_31, ixN_32, Int.reduceLT, Int.reduceLE, Int.reduceNeg, upd_same, reduceCtorEq, false_and, exists_false, or_false, false_or, tSeq, tNext, tIfS, tRet, tRetN, tDrop, tAsg, gName, tPar, tPar3, tAug, ipI, tVar, tC, tOp, tUn, tCB, tD, tDK, tCons, tNil, rI, rI0, rU, tB, tTest, tAnd, tOr, tNot, tAndV, tOrV, tNotV, tIf, rEq, rNe, scal_ii, scal_bb, scal_ss, rGcd_eq, tBits, List.set_cons_zero, List.set_cons_succ, List.getElem?_cons_zero, List.getElem?_cons_succ, Option.some.injEq, exists_eq_left', V.int.injEq, V.bl.injEq, V.str.injEq, true_and, and_true, decide_eq_true_eq, List.cons.injEq, exists_eq_left, Bool.false_eq_true, if_false, if_true, ite_true, ite_false, Bool.not_eq_true', decide_eq_false_iff_not, Bool.not_not]
    have h5 := hM.1
    exact ⟨D, rfl, hM, D, x, rfl, by omega, hD, hV, kk⟩

def InvNum (D x y b : Int) (H : Hp) : Nat → SV → Hp → Prop := fun _ σ H2 => ∃ v : Option V, σ = [some (.int D), some (.int x), some (.int y), some (.int b), v] ∧ Same H H2

theorem okRootNumber {f : Addr} {fd : FuncData} (F : Fun K "root_number" "root_number" s_RootNumber f fd) (T : Txt K mg) {fCheckMeasure : Addr} {fdCheckMeasure : FuncData} (D_CheckMeasure : DefAt P w K mg base 3 "check_measure" fCheckMeasure fdCheckMeasure ["measure"] (spCheckMeasure0)) {fReduced : Addr} {fdReduced : FuncData} (D_Reduced : DefAt P w K mg base 2 "_reduced" fReduced fdReduced ["measure", "x", "y", "below"] (spReduced)) {fIsWhole : Addr} {fdIsWhole : FuncData} (D_IsWhole : DefAt P w K mg base 1 "is_whole" fIsWhole fdIsWhole ["value"] (spWhole)) : FnOk P w K mg base CX0 4 f fd ["measure", "x", "y", "below"] (spRootNumber0) := by
  refine F.ok scRootNumber (fun vs H Q E h => ?_) (fun cdv A outer s H vs Q E hr h => ?_)
  · obtain ⟨D, x, y, b, rfl, _⟩ := h
    rfl
  · obtain ⟨D, x, y, b, rfl, hM, hD, hx, hy, hb, hb0, kk⟩ := h
    refine ⟨_, (pss_cons (ps_expr (pe_d D_CheckMeasure hr (pa_cons (pv 0) pa_nil)))
        (pss_cons (ps_for PassesOwn.never rfl (pi_tup (pe_tup (pa_cons (pv 1) (pa_cons (pv 2) (pa_cons (pv 3) pa_nil))))) (pg_name (i := 4) scRootNumber.nd rfl (Or.inl rfl)) (pss_one (ps_if (pt_not (pt_val (pe_d D_IsWhole hr (pa_cons (pv 4) pa_nil)))) (pss_one ps_never) pss_nil)))
        (pss_cons (ps_if (pt_cmpR op_eq (pv 3) pe_int (nomark _)) (pss_one ps_never) pss_nil)
        (pss_one (ps_ret (pe_d D_Reduced hr (pa_cons (pv 0) (pa_cons (pv 1) (pa_cons (pv 2) (pa_cons (pv 3) pa_nil)))))))))), ?_⟩
    have e0 : start N_RootNumber [.int D, .int x, .int y, .int b] = [some (.int D), some (.int x), some (.int y), some (.int b), none] := rfl
    rw [e0]
    simp only [cxK, wipe, tYes, List.map_cons, List.map_nil, rIxL, rSum, tSl, rSlL, tNoPart, tPart, exists_and_left, and_assoc, V.ref.injEq, HO.lst.injEq, HO.tup.injEq, tFor_eq, iRng1, iRng2, iList, iTup, tLc_eq, tLst, tTup, gSub, rSetL, gT, gL, gTup, gCons, gNil, atI_0, atI_1, atI_2, atI_3, List.length_cons, List.length_nil, Nat.zero_add, Nat.reduceAdd, Nat.reduceLeDiff, ixN_30, ixN_31, ixN_32, Int.reduceLT, Int.reduceLE, Int.reduceNeg, upd_same, reduceCtorEq, false_and, exists_false, or_false, false_or, tSeq, tNext, tIfS, tRet, tRetN, tDrop, tAsg, gName, tPar, tPar3, tAug, ipI, tVar, tC, tOp, tUn, tCB, tD, tDK, tCons, tNil, rI, rI0, rU, tB, tTest, tAnd, tOr, tNot, tAndV, tOrV, tNotV, tIf, rEq, rNe, scal_ii, scal_bb, scal_ss, rGcd_eq, tBits, List.set_cons_zero, List.set_cons_succ, List.getElem?_cons_zero, List.getElem?_cons_succ, Option.some.injEq, exists_eq_left', V.int.injEq, V.bl.injEq, V.str.injEq, true_and, and_true, decide_eq_true_eq, List.cons.injEq, exists_eq_left, Bool.false_eq_true, if_false, if_true, ite_true, ite_false, Bool.not_eq_true', decide_eq_false_iff_not, Bool.not_not]
    have h5 := hM.1
    refine ⟨D, rfl, hM, by decide, fun p np => ⟨⟨_, SqT.of upd_same⟩, ?_⟩⟩
    refine forW_tup (xs := [.int x, .int y, .int b]) (InvNum D x y b (upd H p (.tup [.int x, .int y, .int b]))) ⟨none, rfl, Same.refl _⟩ (fun i σ H2 _ z => ?_) ?_ ?_
    · obtain ⟨v, _, s2⟩ := z
      exact SqT.of (s2 _ _ upd_same)
    · rintro i v σ' H2 hx2 ⟨v0, rfl, s2⟩
      have hmem := List.mem_of_getElem? hx2
      obtain ⟨n, rfl⟩ : ∃ n, v = V.int n := by
        simp only [List.mem_cons, List.not_mem_nil, or_false] at hmem
        rcases hmem with rfl | rfl | rfl <;> exact ⟨_, rfl⟩
      simp only [cxK, wipe, tYes, List.map_cons, List.map_nil, rIxL, rSum, tSl, rSlL, tNoPart, tPart, exists_and_left, and_assoc, V.ref.injEq, HO.lst.injEq, HO.tup.injEq, tFor_eq, iRng1, iRng2, iList, iTup, tLc_eq, tLst, tTup, gSub, rSetL, gT, gL, gTup, gCons, gNil, atI_0, atI_1, atI_2, atI_3, List.length_cons, List.length_nil, Nat.zero_add, Nat.reduceAdd, Nat.reduceLeDiff, ixN_30, ixN_31, ixN_32, Int.reduceLT, Int.reduceLE, Int.reduceNeg, upd_same, reduceCtorEq, false_and, exists_false, or_false, false_or, tSeq, tNext, tIfS, tRet, tRetN, tDrop, tAsg, gName, tPar, tPar3, tAug, ipI, tVar, tC, tOp, tUn, tCB, tD, tDK, tCons, tNil, rI, rI0, rU, tB, tTest, tAnd, tOr, tNot, tAndV, tOrV, tNotV, tIf, rEq, rNe, scal_ii, scal_bb, scal_ss, rGcd_eq, tBits, List.set_cons_zero, List.set_cons_succ, List.getElem?_cons_zero, List.getElem?_cons_succ, Option.some.injEq, exists_eq_left', V.int.injEq, V.bl.injEq, V.str.injEq, true_and, and_true, decide_eq_true_eq, List.cons.injEq, exists_eq_left, Bool.false_eq_true, if_false, if_true, ite_true, ite_false, Bool.not_eq_true', decide_eq_false_iff_not, Bool.not_not]
      refine ⟨.int n, rfl, ⟨"int", rfl⟩, ?_⟩
      refine ⟨true, rfl, ?_⟩
      rw [if_neg (by decide)]
      exact ⟨_, rfl, s2⟩
    · rintro σ' H2 ⟨v, rfl, s2⟩
      simp only [cxK, wipe, tYes, List.map_cons, List.map_nil, rIxL, rSum, tSl, rSlL, tNoPart, tPart, exists_and_left, and_assoc, V.ref.injEq, HO.lst.injEq, HO.tup.injEq, tFor_eq, iRng1, iRng2, iList, iTup, tLc_eq, tLst, tTup, gSub, rSetL, gT, gL, gTup, gCons, gNil, atI_0, atI_1, atI_2, atI_3, List.length_cons, List.length_nil, Nat.zero_add, Nat.reduceAdd, Nat.reduceLeDiff, ixN_30, ixN_31, ixN_32, Int.reduceLT, Int.reduceLE, Int.reduceNeg, upd_same, reduceCtorEq, false_and, exists_false, or_false, false_or, tSeq, tNext, tIfS, tRet, tRetN, tDrop, tAsg, gName, tPar, tPar3, tAug, ipI, tVar, tC, tOp, tUn, tCB, tD, tDK, tCons, tNil, rI, rI0, rU, tB, tTest, tAnd, tOr, tNot, tAndV, tOrV, tNotV, tIf, rEq, rNe, scal_ii, scal_bb, scal_ss, rGcd_eq, tBits, List.set_cons_zero, List.set_cons_succ, List.getElem?_cons_zero, List.getElem?_cons_succ, Option.some.injEq, exists_eq_left', V.int.injEq, V.bl.injEq, V.str.injEq, true_and, and_true, decide_eq_true_eq, List.cons.injEq, exists_eq_left, Bool.false_eq_true, if_false, if_true, ite_true, ite_false, Bool.not_eq_true', decide_eq_false_iff_not, Bool.not_not]
      rw [if_neg hb0]
      exact ⟨D, x, y, b, rfl, by omega, hD, hx, hy, hb, hb0, fun q H3 nq s3 e => kk q H3 (((Same.upd np).trans s2).free nq) (((Same.upd np).trans s2).trans s3) e⟩

def InvMeasure (g : Addr) (n : Int) (k : Nat) (H : Hp) : Nat → SV → Hp → Prop := fun i σ H2 => ∃ (b : Int) (t : Option V), σ = [some (.ref g), some (.int n), some (.int b), t, none, none] ∧ 1 ≤ b ∧ b ≤ 5 * 10 ^ i ∧ GenAt H2 g (k + 20) ∧ Keep g H H2

theorem okLawMeasure {f : Addr} {fd : FuncData} (F : Fun K "_law_measure" "_law_measure" s_LawMeasure f fd) (T : Txt K mg) {fLawRandom : Addr} {fdLawRandom : FuncData} (D_LawRandom : DefAt P w K mg base 2 "_law_random" fLawRandom fdLawRandom ["_law_generator_here", "_law_bound"] (spRandom)) {fLawRoot : Addr} {fdLawRoot : FuncData} (D_LawRoot : DefAt P w K mg base 1 "_law_root" fLawRoot fdLawRoot ["_law_number"] (spRoot)) : FnOk P w K mg base CX0 3 f fd ["_law_generator_here", "_law_figures"] (spMeasure) := by
  refine F.ok scLawMeasure (fun vs H Q E h => ?_) (fun cdv A outer s H vs Q E hr h => ?_)
  · obtain ⟨g, n, k, rfl, _⟩ := h
    rfl
  · obtain ⟨g, n, k, rfl, hG, hk, hn1, hn2, kk⟩ := h
    refine ⟨_, (pss_cons (ps_set (i := 2) scLawMeasure.nd rfl (Or.inl rfl) pe_int)
        (pss_cons (ps_for PassesOwn.never rfl (pi_range1 rfl T.range (pa_cons (pe_op op_add pe_int (pe_d D_LawRandom hr (pa_cons (pv 0) (pa_cons (pv 1) pa_nil)))) pa_nil)) (pg_name (i := 3) scLawMeasure.nd rfl (Or.inl rfl)) (pss_one (ps_set (i := 2) scLawMeasure.nd rfl (Or.inl rfl) (pe_op op_mulU pe_int (pv 2)))))
        (pss_cons (ps_set (i := 4) scLawMeasure.nd rfl (Or.inl rfl) (pe_op op_add pe_int (pe_d D_LawRandom hr (pa_cons (pv 0) (pa_cons (pv 2) pa_nil)))))
        (pss_cons (ps_if (pt_cmpR op_eq (pe_d D_LawRandom hr (pa_cons (pv 0) (pa_cons pe_int pa_nil))) pe_int (nomark _)) (pss_one (ps_set (i := 4) scLawMeasure.nd rfl (Or.inl rfl) (pe_op op_mulU (pe_d D_LawRoot hr (pa_cons (pv 4) pa_nil)) (pe_d D_LawRoot hr (pa_cons (pv 4) pa_nil))))) pss_nil)
        (pss_cons (ps_set (i := 5) scLawMeasure.nd rfl (Or.inl rfl) (pe_op op_add (pe_op op_sub (pv 4) (pe_op op_mod (pe_callTy cr_int (by rfl) T.int (by decide +kernel) (pa_cons (pv 4) pa_nil)) pe_int)) (pe_d D_LawRandom hr (pa_cons (pv 0) (pa_cons pe_int pa_nil)))))
        (pss_one (ps_ret (pe_ifExp (pt_cmpR op_gt (pv 5) pe_int (nomark _)) (pv 5) pe_int)))))))), ?_⟩
    have e0 : start N_LawMeasure [.ref g, .int n] = [some (.ref g), some (.int n), none, none, none, none] := rfl
    rw [e0]
    simp only [cxK, wipe, tYes, List.map_cons, List.map_nil, rIxL, rSum, tSl, rSlL, tNoPart, tPart, exists_and_left, and_assoc, V.ref.injEq, HO.lst.injEq, HO.tup.injEq, tFor_eq, iRng1, iRng2, iList, iTup, tLc_eq, tLst, tTup, gSub, rSetL, gT, gL, gTup, gCons, gNil, atI_0, atI_1, atI_2, atI_3, List.length_cons, List.length_nil, Nat.zero_add, Nat.reduceAdd, Nat.reduceLeDiff, ixN_30, ixN_31, ixN_32, Int.reduceLT, Int.reduceLE, Int.reduceNeg, upd_same, reduceCtorEq, false_and, exists_false, or_false, false_or, tSeq, tNext, tIfS, tRet, tRetN, tDrop, tAsg, gName, tPar, tPar3, tAug, ipI, tVar, tC, tOp, tUn, tCB, tD, tDK, tCons, tNil, rI, rI0, rU, tB, tTest, tAnd, tOr, tNot, tAndV, tOrV, tNotV, tIf, rEq, rNe, scal_ii, scal_bb, scal_ss, rGcd_eq, tBits, List.set_cons_zero, List.set_cons_succ, List.getElem?_cons_zero, List.getElem?_cons_succ, Option.some.injEq, exists_eq_left', V.int.injEq, V.bl.injEq, V.str.injEq, true_and, and_true, decide_eq_true_eq, List.cons.injEq, exists_eq_left, Bool.false_eq_true, if_false, if_true, ite_true, ite_false, Bool.not_eq_true', decide_eq_false_iff_not, Bool.not_not]
    refine ⟨g, n, k, rfl, hG, by omega, hn1, by omega, fun r H1 hr0 hr1 G1 K1 => ?_⟩
    simp only [cxK, wipe, tYes, List.map_cons, List.map_nil, rIxL, rSum, tSl, rSlL, tNoPart, tPart, exists_and_left, and_assoc, V.ref.injEq, HO.lst.injEq, HO.tup.injEq, tFor_eq, iRng1, iRng2, iList, iTup, tLc_eq, tLst, tTup, gSub, rSetL, gT, gL, gTup, gCons, gNil, atI_0, atI_1, atI_2, atI_3, List.length_cons, List.length_nil, Nat.zero_add, Nat.reduceAdd, Nat.reduceLeDiff, ixN_30, ixN_31, ixN_32, Int.reduceLT, Int.reduceLE, Int.reduceNeg, upd_same, reduceCtorEq, false_and, exists_false, or_false, false_or, tSeq, tNext, tIfS, tRet, tRetN, tDrop, tAsg, gName, tPar, tPar3, tAug, ipI, tVar, tC, tOp, tUn, tCB, tD, tDK, tCons, tNil, rI, rI0, rU, tB, tTest, tAnd, tOr, tNot, tAndV, tOrV, tNotV, tIf, rEq, rNe, scal_ii, scal_bb, scal_ss, rGcd_eq, tBits, List.set_cons_zero, List.set_cons_succ, List.getElem?_cons_zero, List.getElem?_cons_succ, Option.some.injEq, exists_eq_left', V.int.injEq, V.bl.injEq, V.str.injEq, true_and, and_true, decide_eq_true_eq, List.cons.injEq, exists_eq_left, Bool.false_eq_true, if_false, if_true, ite_true, ite_false, Bool.not_eq_true', decide_eq_false_iff_not, Bool.not_not]
    refine ⟨by omega, by omega, ?_⟩
    refine forW_range (InvMeasure g n k H) ⟨5, none, rfl, by decide, by decide, G1, K1⟩ ?_ ?_
    · rintro i σ' H2 hi ⟨b, t, rfl, hb0, hb1, G2, K2⟩
      simp only [cxK, wipe, tYes, List.map_cons, List.map_nil, rIxL, rSum, tSl, rSlL, tNoPart, tPart, exists_and_left, and_assoc, V.ref.injEq, HO.lst.injEq, HO.tup.injEq, tFor_eq, iRng1, iRng2, iList, iTup, tLc_eq, tLst, tTup, gSub, rSetL, gT, gL, gTup, gCons, gNil, atI_0, atI_1, atI_2, atI_3, List.length_cons, List.length_nil, Nat.zero_add, Nat.reduceAdd, Nat.reduceLeDiff, ixN_30, ixN_31, ixN_32, Int.reduceLT, Int.reduceLE, Int.reduceNeg, upd_same, reduceCtorEq, false_and, exists_false, or_false, false_or, tSeq, tNext, tIfS, tRet, tRetN, tDrop, tAsg, gName, tPar, tPar3, tAug, ipI, tVar, tC, tOp, tUn, tCB, tD, tDK, tCons, tNil, rI, rI0, rU, tB, tTest, tAnd, tOr, tNot, tAndV, tOrV, tNotV, tIf, rEq, rNe, scal_ii, scal_bb, scal_ss, rGcd_eq, tBits, List.set_cons_zero, List.set_cons_succ, List.getElem?_cons_zero, List.getElem?_cons_succ, Option.some.injEq, exists_eq_left', V.int.injEq, V.bl.injEq, V.str.injEq, true_and, and_true, decide_eq_true_eq, List.cons.injEq, exists_eq_left, Bool.false_eq_true, if_false, if_true, ite_true, ite_false, Bool.not_eq_true', decide_eq_false_iff_not, Bool.not_not]
      refine ⟨cml (by decide) (by decide), 10 * b, _, rfl, by omega, ?_, G2, K2⟩
      rw [Int.pow_succ]
      omega
    · rintro σ' H2 ⟨b, t, rfl, hb0, hb1, G2, K2⟩
      have hb2 : b ≤ 5 * 10 ^ 40 := by
        have h1 : (10 : Int) ^ (1 + r).toNat ≤ 10 ^ 40 := by
          have := Nat.pow_le_pow_right (show 0 < 10 by decide) (show (1 + r).toNat ≤ 40 by omega)
          have e : ((10 ^ (1 + r).toNat : Nat) : Int) ≤ ((10 ^ 40 : Nat) : Int) := Int.ofNat_le.mpr this
          simpa using e
        omega
      simp only [cxK, wipe, tYes, List.map_cons, List.map_nil, rIxL, rSum, tSl, rSlL, tNoPart, tPart, exists_and_left, and_assoc, V.ref.injEq, HO.lst.injEq, HO.tup.injEq, tFor_eq, iRng1, iRng2, iList, iTup, tLc_eq, tLst, tTup, gSub, rSetL, gT, gL, gTup, gCons, gNil, atI_0, atI_1, atI_2, atI_3, List.length_cons, List.length_nil, Nat.zero_add, Nat.reduceAdd, Nat.reduceLeDiff, ixN_30, ixN_31, ixN_32, Int.reduceLT, Int.reduceLE, Int.reduceNeg, upd_same, reduceCtorEq, false_and, exists_false, or_false, false_or, tSeq, tNext, tIfS, tRet, tRetN, tDrop, tAsg, gName, tPar, tPar3, tAug, ipI, tVar, tC, tOp, tUn, tCB, tD, tDK, tCons, tNil, rI, rI0, rU, tB, tTest, tAnd, tOr, tNot, tAndV, tOrV, tNotV, tIf, rEq, rNe, scal_ii, scal_bb, scal_ss, rGcd_eq, tBits, List.set_cons_zero, List.set_cons_succ, List.getElem?_cons_zero, List.getElem?_cons_succ, Option.some.injEq, exists_eq_left', V.int.injEq, V.bl.injEq, V.str.injEq, true_and, and_true, decide_eq_true_eq, List.cons.injEq, exists_eq_left, Bool.false_eq_true, if_false, if_true, ite_true, ite_false, Bool.not_eq_true', decide_eq_false_iff_not, Bool.not_not]
      refine ⟨g, b, k + 20, rfl, G2, by omega, hb0, by omega, fun r1 H3 p0 p1 G3 K3 => ?_⟩
      simp only [cxK, wipe, tYes, List.map_cons, List.map_nil, rIxL, rSum, tSl, rSlL, tNoPart, tPart, exists_and_left, and_assoc, V.ref.injEq, HO.lst.injEq, HO.tup.injEq, tFor_eq, iRng1, iRng2, iList, iTup, tLc_eq, tLst, tTup, gSub, rSetL, gT, gL, gTup, gCons, gNil, atI_0, atI_1, atI_2, atI_3, List.length_cons, List.length_nil, Nat.zero_add, Nat.reduceAdd, Nat.reduceLeDiff, ixN_30, ixN_31, ixN_32, Int.reduceLT, Int.reduceLE, Int.reduceNeg, upd_same, reduceCtorEq, false_and, exists_false, or_false, false_or, tSeq, tNext, tIfS, tRet, tRetN, tDrop, tAsg, gName, tPar, tPar3, tAug, ipI, tVar, tC, tOp, tUn, tCB, tD, tDK, tCons, tNil, rI, rI0, rU, tB, tTest, tAnd, tOr, tNot, tAndV, tOrV, tNotV, tIf, rEq, rNe, scal_ii, scal_bb, scal_ss, rGcd_eq, tBits, List.set_cons_zero, List.set_cons_succ, List.getElem?_cons_zero, List.getElem?_cons_succ, Option.some.injEq, exists_eq_left', V.int.injEq, V.bl.injEq, V.str.injEq, true_and, and_true, decide_eq_true_eq, List.cons.injEq, exists_eq_left, Bool.false_eq_true, if_false, if_true, ite_true, ite_false, Bool.not_eq_true', decide_eq_false_iff_not, Bool.not_not]
      refine ⟨g, 6, k + 40, rfl, G3, by omega, by decide, by decide, fun r2 H4 p2 p3 G4 K4 => ?_⟩
      simp only [cxK, wipe, tYes, List.map_cons, List.map_nil, rIxL, rSum, tSl, rSlL, tNoPart, tPart, exists_and_left, and_assoc, V.ref.injEq, HO.lst.injEq, HO.tup.injEq, tFor_eq, iRng1, iRng2, iList, iTup, tLc_eq, tLst, tTup, gSub, rSetL, gT, gL, gTup, gCons, gNil, atI_0, atI_1, atI_2, atI_3, List.length_cons, List.length_nil, Nat.zero_add, Nat.reduceAdd, Nat.reduceLeDiff, ixN_30, ixN_31, ixN_32, Int.reduceLT, Int.reduceLE, Int.reduceNeg, upd_same, reduceCtorEq, false_and, exists_false, or_false, false_or, tSeq, tNext, tIfS, tRet, tRetN, tDrop, tAsg, gName, tPar, tPar3, tAug, ipI, tVar, tC, tOp, tUn, tCB, tD, tDK, tCons, tNil, rI, rI0, rU, tB, tTest, tAnd, tOr, tNot, tAndV, tOrV, tNotV, tIf, rEq, rNe, scal_ii, scal_bb, scal_ss, rGcd_eq, tBits, List.set_cons_zero, List.set_cons_succ, List.getElem?_cons_zero, List.getElem?_cons_succ, Option.some.injEq, exists_eq_left', V.int.injEq, V.bl.injEq, V.str.injEq, true_and, and_true, decide_eq_true_eq, List.cons.injEq, exists_eq_left, Bool.false_eq_true, if_false, if_true, ite_true, ite_false, Bool.not_eq_true', decide_eq_false_iff_not, Bool.not_not]
      have fin : ∀ (N : Int) (t1 : SV) (H5 : Hp), 4 ≤ N → N < 2 ^ 199 → GenAt H5 g (k + 60) → Keep g H H5 → spRandom [.ref g, .int 2] H5 (fun y H6 => ∃ x, y = V.int x ∧ if 4 < N - N % 4 + x then Q (.int (N - N % 4 + x)) H6 else Q (.int 5) H6) E0 := fun N t1 H5 q0 q1 G5 K5 => by
        refine ⟨g, 2, k + 60, rfl, G5, by omega, by decide, by decide, fun r3 H6 p4 p5 G6 K6 => ⟨r3, rfl, ite2 (fun hc => ?_) (fun hc => ?_)⟩⟩
        · exact kk _ _ ⟨by omega, by omega⟩ (by omega) (G6.mono (by omega)) (K5.trans K6)
        · exact kk _ _ ⟨by decide, by decide⟩ (by decide) (G6.mono (by omega)) (K5.trans K6)
      refine ite2 (fun hz => ?_) (fun hz => ?_)
      · refine ⟨5 + r1, rfl, by omega, by omega, fun H5 s5 => ?_⟩
        simp only [cxK, wipe, tYes, List.map_cons, List.map_nil, rIxL, rSum, tSl, rSlL, tNoPart, tPart, exists_and_left, and_assoc, V.ref.injEq, HO.lst.injEq, HO.tup.injEq, tFor_eq, iRng1, iRng2, iList, iTup, tLc_eq, tLst, tTup, gSub, rSetL, gT, gL, gTup, gCons, gNil, atI_0, atI_1, atI_2, atI_3, List.length_cons, List.length_nil, Nat.zero_add, Nat.reduceAdd, Nat.reduceLeDiff, ixN_30, ixN_31, ixN_32, Int.reduceLT, Int.reduceLE, Int.reduceNeg, upd_same, reduceCtorEq, false_and, exists_false, or_false, false_or, tSeq, tNext, tIfS, tRet, tRetN, tDrop, tAsg, gName, tPar, tPar3, tAug, ipI, tVar, tC, tOp, tUn, tCB, tD, tDK, tCons, tNil, rI, rI0, rU, tB, tTest, tAnd, tOr, tNot, tAndV, tOrV, tNotV, tIf, rEq, rNe, scal_ii, scal_bb, scal_ss, rGcd_eq, tBits, List.set_cons_zero, List.set_cons_succ, List.getElem?_cons_zero, List.getElem?_cons_succ, Option.some.injEq, exists_eq_left', V.int.injEq, V.bl.injEq, V.str.injEq, true_and, and_true, decide_eq_true_eq, List.cons.injEq, exists_eq_left, Bool.false_eq_true, if_false, if_true, ite_true, ite_false, Bool.not_eq_true', decide_eq_false_iff_not, Bool.not_not]
        refine ⟨5 + r1, rfl, by omega, by omega, fun H6 s6 => ?_⟩
        obtain ⟨s0, s1, s2⟩ := rt_spec (show 0 ≤ 5 + r1 by omega)
        have hrt : 2 ≤ rt (5 + r1) := by
          by_cases h : 2 ≤ rt (5 + r1)
          · exact h
          · have := sq_mono (x := rt (5 + r1) + 1) (y := 2) (by omega) (by omega)
            omega
        have hsq := sq_mono (show (0 : Int) ≤ 2 by decide) hrt
        have hle : rt (5 + r1) ≤ 5 + r1 := by
          have := Int.mul_le_mul_of_nonneg_right (show 1 ≤ rt (5 + r1) by omega) s0
          omega
        simp only [cxK, wipe, tYes, List.map_cons, List.map_nil, rIxL, rSum, tSl, rSlL, tNoPart, tPart, exists_and_left, and_assoc, V.ref.injEq, HO.lst.injEq, HO.tup.injEq, tFor_eq, iRng1, iRng2, iList, iTup, tLc_eq, tLst, tTup, gSub, rSetL, gT, gL, gTup, gCons, gNil, atI_0, atI_1, atI_2, atI_3, List.length_cons, List.length_nil, Nat.zero_add, Nat.reduceAdd, Nat.reduceLeDiff, ixN_30, ixN_31, ixN_32, Int.reduceLT, Int.reduceLE, Int.reduceNeg, upd_same, reduceCtorEq, false_and, exists_false, or_false, false_or, tSeq, tNext, tIfS, tRet, tRetN, tDrop, tAsg, gName, tPar, tPar3, tAug, ipI, tVar, tC, tOp, tUn, tCB, tD, tDK, tCons, tNil, rI, rI0, rU, tB, tTest, tAnd, tOr, tNot, tAndV, tOrV, tNotV, tIf, rEq, rNe, scal_ii, scal_bb, scal_ss, rGcd_eq, tBits, List.set_cons_zero, List.set_cons_succ, List.getElem?_cons_zero, List.getElem?_cons_succ, Option.some.injEq, exists_eq_left', V.int.injEq, V.bl.injEq, V.str.injEq, true_and, and_true, decide_eq_true_eq, List.cons.injEq, exists_eq_left, Bool.false_eq_true, if_false, if_true, ite_true, ite_false, Bool.not_eq_true', decide_eq_false_iff_not, Bool.not_not]
        refine ⟨cmw (by omega) (by omega) (by omega) (by omega), ?_⟩
        exact fin _ [] _ (by omega) (by omega) ((G4.same s5).same s6) (((K2.trans K3).trans K4).trans (Keep.of (s5.trans s6)))
      · exact fin _ [] _ (by omega) (by omega) G4 ((K2.trans K3).trans K4)

theorem okLawLeast {f : Addr} {fd : FuncData} (F : Fun K "_law_least" "_law_least" s_LawLeast f fd) (T : Txt K mg) {fLawRoot : Addr} {fdLawRoot : FuncData} (D_LawRoot : DefAt P w K mg base 1 "_law_root" fLawRoot fdLawRoot ["_law_number"] (spRoot)) {fLawCommon : Addr} {fdLawCommon : FuncData} (D_LawCommon : DefAt P w K mg base 1 "_law_common" fLawCommon fdLawCommon ["_law_one", "_law_other"] (spCommon)) : FnOk P w K mg base CX0 2 f fd ["_law_measure_here", "_law_x", "_law_y", "_law_below"] (spLeast) := by
  refine F.ok scLawLeast (fun vs H Q E h => ?_) (fun cdv A outer s H vs Q E hr h => ?_)
  · obtain ⟨D, x, y, b, rfl, _⟩ := h
    rfl
  · obtain ⟨D, x, y, b, rfl, h0, h1, hx, hy, hb, hb0, kk⟩ := h
    refine ⟨_, (pss_cons (ps_set (i := 4) scLawLeast.nd rfl (Or.inl rfl) (pe_d D_LawRoot hr (pa_cons (pv 0) pa_nil)))
        (pss_cons (ps_if (pt_cmpR op_eq (pe_op op_mulU (pv 4) (pv 4)) (pv 0) (nomark _)) (pss_one (ps_par (i := 1) (j := 2) rfl scLawLeast.nd rfl rfl (by decide) rfl rfl (pa_cons (pe_op op_add (pv 1) (pe_op op_mulU (pv 2) (pv 4))) (pa_cons pe_int pa_nil)) rfl)) pss_nil)
        (pss_cons (ps_set (i := 5) scLawLeast.nd rfl (Or.inl rfl) (pe_d D_LawCommon hr (pa_cons (pe_d D_LawCommon hr (pa_cons (pv 1) (pa_cons (pv 2) pa_nil))) (pa_cons (pv 3) pa_nil))))
        (pss_cons (ps_if (pt_cmpR op_lt (pv 3) pe_int (nomark _)) (pss_one (ps_set (i := 5) scLawLeast.nd rfl (Or.inl rfl) (pe_op op_sub pe_int (pv 5)))) pss_nil)
        (pss_one (ps_ret (pe_tup (pa_cons (pe_op op_fdivX (pv 1) (pv 5)) (pa_cons (pe_op op_fdivX (pv 2) (pv 5)) (pa_cons (pe_op op_fdivX (pv 3) (pv 5)) pa_nil)))))))))), ?_⟩
    have e0 : start N_LawLeast [.int D, .int x, .int y, .int b] = [some (.int D), some (.int x), some (.int y), some (.int b), none, none] := rfl
    rw [e0]
    simp only [cxK, wipe, tYes, List.map_cons, List.map_nil, rIxL, rSum, tSl, rSlL, tNoPart, tPart, exists_and_left, and_assoc, V.ref.injEq, HO.lst.injEq, HO.tup.injEq, tFor_eq, iRng1, iRng2, iList, iTup, tLc_eq, tLst, tTup, gSub, rSetL, gT, gL, gTup, gCons, gNil, atI_0, atI_1, atI_2, atI_3, List.length_cons, List.length_nil, Nat.zero_add, Nat.reduceAdd, Nat.reduceLeDiff, ixN_30, ixN_31, ixN_32, Int.reduceLT, Int.reduceLE, Int.reduceNeg, upd_same, reduceCtorEq, false_and, exists_false, or_false, false_or, tSeq, tNext, tIfS, tRet, tRetN, tDrop, tAsg, gName, tPar, tPar3, tAug, ipI, tVar, tC, tOp, tUn, tCB, tD, tDK, tCons, tNil, rI, rI0, rU, tB, tTest, tAnd, tOr, tNot, tAndV, tOrV, tNotV, tIf, rEq, rNe, scal_ii, scal_bb, scal_ss, rGcd_eq, tBits, List.set_cons_zero, List.set_cons_succ, List.getElem?_cons_zero, List.getElem?_cons_succ, Option.some.injEq, exists_eq_left', V.int.injEq, V.bl.injEq, V.str.injEq, true_and, and_true, decide_eq_true_eq, List.cons.injEq, exists_eq_left, Bool.false_eq_true, if_false, if_true, ite_true, ite_false, Bool.not_eq_true', decide_eq_false_iff_not, Bool.not_not]
    refine ⟨D, rfl, h0, by omega, fun H1 s1 => ?_⟩
    obtain ⟨s0, s1', s2⟩ := rt_spec h0
    have hle : rt D ≤ D := by
      by_cases h : rt D ≤ 0
      · omega
      · have := Int.mul_le_mul_of_nonneg_right (show 1 ≤ rt D by omega) s0
        omega
    simp only [cxK, wipe, tYes, List.map_cons, List.map_nil, rIxL, rSum, tSl, rSlL, tNoPart, tPart, exists_and_left, and_assoc, V.ref.injEq, HO.lst.injEq, HO.tup.injEq, tFor_eq, iRng1, iRng2, iList, iTup, tLc_eq, tLst, tTup, gSub, rSetL, gT, gL, gTup, gCons, gNil, atI_0, atI_1, atI_2, atI_3, List.length_cons, List.length_nil, Nat.zero_add, Nat.reduceAdd, Nat.reduceLeDiff, ixN_30, ixN_31, ixN_32, Int.reduceLT, Int.reduceLE, Int.reduceNeg, upd_same, reduceCtorEq, false_and, exists_false, or_false, false_or, tSeq, tNext, tIfS, tRet, tRetN, tDrop, tAsg, gName, tPar, tPar3, tAug, ipI, tVar, tC, tOp, tUn, tCB, tD, tDK, tCons, tNil, rI, rI0, rU, tB, tTest, tAnd, tOr, tNot, tAndV, tOrV, tNotV, tIf, rEq, rNe, scal_ii, scal_bb, scal_ss, rGcd_eq, tBits, List.set_cons_zero, List.set_cons_succ, List.getElem?_cons_zero, List.getElem?_cons_succ, Option.some.injEq, exists_eq_left', V.int.injEq, V.bl.injEq, V.str.injEq, true_and, and_true, decide_eq_true_eq, List.cons.injEq, exists_eq_left, Bool.false_eq_true, if_false, if_true, ite_true, ite_false, Bool.not_eq_true', decide_eq_false_iff_not, Bool.not_not]
    refine ⟨cmw (by omega) (by omega) (by omega) (by omega), ite2 (fun hs => ?_) (fun hs => ?_)⟩
    · refine ⟨cmw (by omega) (by omega) (by omega) (by omega), ?_⟩
      have hred : red (x + y * rt D) 0 b = least D x y b := by unfold least; rw [if_pos hs]
      refine ⟨_, _, rfl, ?_⟩
      refine ⟨_, _, rfl, ?_⟩
      simp only [cxK, wipe, tYes, List.map_cons, List.map_nil, rIxL, rSum, tSl, rSlL, tNoPart, tPart, exists_and_left, and_assoc, V.ref.injEq, HO.lst.injEq, HO.tup.injEq, tFor_eq, iRng1, iRng2, iList, iTup, tLc_eq, tLst, tTup, gSub, rSetL, gT, gL, gTup, gCons, gNil, atI_0, atI_1, atI_2, atI_3, List.length_cons, List.length_nil, Nat.zero_add, Nat.reduceAdd, Nat.reduceLeDiff, ixN_30, ixN_31, ixN_32, Int.reduceLT, Int.reduceLE, Int.reduceNeg, upd_same, reduceCtorEq, false_and, exists_false, or_false, false_or, tSeq, tNext, tIfS, tRet, tRetN, tDrop, tAsg, gName, tPar, tPar3, tAug, ipI, tVar, tC, tOp, tUn, tCB, tD, tDK, tCons, tNil, rI, rI0, rU, tB, tTest, tAnd, tOr, tNot, tAndV, tOrV, tNotV, tIf, rEq, rNe, scal_ii, scal_bb, scal_ss, rGcd_eq, tBits, List.set_cons_zero, List.set_cons_succ, List.getElem?_cons_zero, List.getElem?_cons_succ, Option.some.injEq, exists_eq_left', V.int.injEq, V.bl.injEq, V.str.injEq, true_and, and_true, decide_eq_true_eq, List.cons.injEq, exists_eq_left, Bool.false_eq_true, if_false, if_true, ite_true, ite_false, Bool.not_eq_true', decide_eq_false_iff_not, Bool.not_not]
      have hl0 := lsg_ne (x := x + y * rt D) (y := 0) hb0
      have hl1 := lsg_size (x := x + y * rt D) (y := 0) hb0
      have dv : DivOk (lsg (x + y * rt D) (0) b) := cdiv hl0 (by omega) (by omega)
      refine ite2 (fun hn => ?_) (fun hn => ?_)
      · have e : 0 - gcdI (gcdI (x + y * rt D) (0)) b = lsg (x + y * rt D) (0) b := by unfold lsg; rw [if_pos hn]
        rw [e]
        refine ⟨dv, dv, dv, by decide, fun p np => kk p _ (s1.free np) (Same.upd2 s1 (s1.free np)) ?_⟩
        rw [upd_same, ← hred]
        rfl
      · have e : gcdI (gcdI (x + y * rt D) (0)) b = lsg (x + y * rt D) (0) b := by unfold lsg; rw [if_neg hn]
        rw [e]
        refine ⟨dv, dv, dv, by decide, fun p np => kk p _ (s1.free np) (Same.upd2 s1 (s1.free np)) ?_⟩
        rw [upd_same, ← hred]
        rfl
    · have hred : red x y b = least D x y b := by unfold least; rw [if_neg hs]
      refine ⟨_, _, rfl, ?_⟩
      refine ⟨_, _, rfl, ?_⟩
      simp only [cxK, wipe, tYes, List.map_cons, List.map_nil, rIxL, rSum, tSl, rSlL, tNoPart, tPart, exists_and_left, and_assoc, V.ref.injEq, HO.lst.injEq, HO.tup.injEq, tFor_eq, iRng1, iRng2, iList, iTup, tLc_eq, tLst, tTup, gSub, rSetL, gT, gL, gTup, gCons, gNil, atI_0, atI_1, atI_2, atI_3, List.length_cons, List.length_nil, Nat.zero_add, Nat.reduceAdd, Nat.reduceLeDiff, ixN_30, ixN_31, ixN_32, Int.reduceLT, Int.reduceLE, Int.reduceNeg, upd_same, reduceCtorEq, false_and, exists_false, or_false, false_or, tSeq, tNext, tIfS, tRet, tRetN, tDrop, tAsg, gName, tPar, tPar3, tAug, ipI, tVar, tC, tOp, tUn, tCB, tD, tDK, tCons, tNil, rI, rI0, rU, tB, tTest, tAnd, tOr, tNot, tAndV, tOrV, tNotV, tIf, rEq, rNe, scal_ii, scal_bb, scal_ss, rGcd_eq, tBits, List.set_cons_zero, List.set_cons_succ, List.getElem?_cons_zero, List.getElem?_cons_succ, Option.some.injEq, exists_eq_left', V.int.injEq, V.bl.injEq, V.str.injEq, true_and, and_true, decide_eq_true_eq, List.cons.injEq, exists_eq_left, Bool.false_eq_true, if_false, if_true, ite_true, ite_false, Bool.not_eq_true', decide_eq_false_iff_not, Bool.not_not]
      have hl0 := lsg_ne (x := x) (y := y) hb0
      have hl1 := lsg_size (x := x) (y := y) hb0
      have dv : DivOk (lsg (x) (y) b) := cdiv hl0 (by omega) (by omega)
      refine ite2 (fun hn => ?_) (fun hn => ?_)
      · have e : 0 - gcdI (gcdI (x) (y)) b = lsg (x) (y) b := by unfold lsg; rw [if_pos hn]
        rw [e]
        refine ⟨dv, dv, dv, by decide, fun p np => kk p _ (s1.free np) (Same.upd2 s1 (s1.free np)) ?_⟩
        rw [upd_same, ← hred]
        rfl
      · have e : gcdI (gcdI (x) (y)) b = lsg (x) (y) b := by unfold lsg; rw [if_neg hn]
        rw [e]
        refine ⟨dv, dv, dv, by decide, fun p np => kk p _ (s1.free np) (Same.upd2 s1 (s1.free np)) ?_⟩
        rw [upd_same, ← hred]
        rfl

def InvBent (H : Hp) (Dd : Addr) (xs : List V) : Nat → Hp → Prop := fun i H2 => Same H H2 ∧ H2 Dd = some (.lst ((xs.take i).filter fun x => !isIntV x))

theorem okLawIsRoot {f : Addr} {fd : FuncData} (F : Fun K "_law_is_root" "_law_is_root" s_LawIsRoot f fd) (T : Txt K mg) {fLawRoot : Addr} {fdLawRoot : FuncData} (D_LawRoot : DefAt P w K mg base 1 "_law_root" fLawRoot fdLawRoot ["_law_number"] (spRoot)) {fLawCommon : Addr} {fdLawCommon : FuncData} (D_LawCommon : DefAt P w K mg base 1 "_law_common" fLawCommon fdLawCommon ["_law_one", "_law_other"] (spCommon)) : FnOk P w K mg base CX0 2 f fd ["_law_measure_here", "_law_value"] (spLawIsRoot K) := by
  refine F.ok scLawIsRoot (fun vs H Q E h => ?_) (fun cdv A outer s H vs Q E hr h => ?_)
  · obtain ⟨D, x, d, rfl, _⟩ := h
    rfl
  · obtain ⟨D, x, d, rfl, h0, h1, hV, kk⟩ := h
    refine ⟨_, (pss_cons (ps_if (PW.pt (pw_or (pt_not (pt_val (pe_callB call_isi (by rfl) T.isinstance (by decide +kernel) (pa_cons (pv 1) (pa_cons (pe_bltn (v := .ty "tuple") (u := .type "tuple") (by rfl) T.tuple (by decide +kernel) rfl) pa_nil))))) (pw_or1 (pt_cmpR op_ne (pe_callB lenT (by rfl) T.len (by decide +kernel) (pa_cons (pv 1) pa_nil)) pe_int (nomark _))))) (pss_one (ps_ret pe_bl)) pss_nil)
        (pss_cons (ps_if (PW.pt (pw_or (pt_cmpR (op_neD hr.units) (pe_lc (own := [("_law_item", 3)]) (g := gName 3) rfl scLawIsRoot.nd (pi_tup (pv 1)) (blkOk_by (N := N_LawIsRoot) (sc := defScope s_LawIsRoot) (by decide +kernel)) (fun _ _ _ _ _ => pg_name (i := 3) scLawIsRoot.nd rfl (Or.inl rfl)) (fun _ _ _ _ _ => (pts_one (PW.pt (pw_or (pt_val (pe_callB (call_isiK (K := K) rfl) (by rfl) T.isinstance (by decide +kernel) (pa_cons (pv 3) (pa_cons (pe_bltn (v := .ty "bool") (u := .type "bool") (by rfl) T.bool (by decide +kernel) rfl) pa_nil)))) (pw_or1 (pt_not (pt_val (pe_callB (call_isiK (K := K) rfl) (by rfl) T.isinstance (by decide +kernel) (pa_cons (pv 3) (pa_cons (pe_bltn (v := .ty "int") (u := .type "int") (by rfl) T.int (by decide +kernel) rfl) pa_nil)))))))))) (fun _ _ _ _ _ => (pv 3))) (pe_lst pa_nil) (nomark _)) (pw_or1 (pt_cmpR op_lt (pe_ix ixT (pv 1) pe_int (fun _ _ => rfl)) pe_int (nomark _))))) (pss_one (ps_ret pe_bl)) pss_nil)
        (pss_cons (ps_set (i := 2) scLawIsRoot.nd rfl (Or.inl rfl) (pe_d D_LawRoot hr (pa_cons (pv 0) pa_nil)))
        (pss_one (ps_ret (pe_and (pe_cmpR op_eq (pe_d D_LawCommon hr (pa_cons (pe_d D_LawCommon hr (pa_cons (pe_ix ixT (pv 1) pe_int (fun _ _ => rfl)) (pa_cons (pe_ix ixT (pv 1) pe_int (fun _ _ => rfl)) pa_nil))) (pa_cons (pe_ix ixT (pv 1) pe_int (fun _ _ => rfl)) pa_nil))) pe_int (nomark _)) (pe_one (pe_or (pe_cmpR op_eq (pe_ix ixT (pv 1) pe_int (fun _ _ => rfl)) pe_int (nomark _)) (pe_one (pe_cmpR op_ne (pe_op op_mulU (pv 2) (pv 2)) (pv 0) (nomark _))))))))))), ?_⟩
    have e0 : start N_LawIsRoot [.int D, x] = [some (.int D), some x, none, none] := rfl
    rw [e0]
    simp only [cxK, wipe, tYes, List.map_cons, List.map_nil, rIxL, rSum, tSl, rSlL, tNoPart, tPart, exists_and_left, and_assoc, V.ref.injEq, HO.lst.injEq, HO.tup.injEq, tFor_eq, iRng1, iRng2, iList, iTup, tLc_eq, tLst, tTup, gSub, rSetL, gT, gL, gTup, gCons, gNil, atI_0, atI_1, atI_2, atI_3, List.length_cons, List.length_nil, Nat.zero_add, Nat.reduceAdd, Nat.reduceLeDiff, ixN_30, ixN_31, ixN_32, Int.reduceLT, Int.reduceLE, Int.reduceNeg, upd_same, reduceCtorEq, false_and, exists_false, or_false, false_or, tSeq, tNext, tIfS, tRet, tRetN, tDrop, tAsg, gName, tPar, tPar3, tAug, ipI, tVar, tC, tOp, tUn, tCB, tD, tDK, tCons, tNil, rI, rI0, rU, tB, tTest, tAnd, tOr, tNot, tAndV, tOrV, tNotV, tIf, rEq, rNe, scal_ii, scal_bb, scal_ss, rGcd_eq, tBits, List.set_cons_zero, List.set_cons_succ, List.getElem?_cons_zero, List.getElem?_cons_succ, Option.some.injEq, exists_eq_left', V.int.injEq, V.bl.injEq, V.str.injEq, true_and, and_true, decide_eq_true_eq, List.cons.injEq, exists_eq_left, Bool.false_eq_true, if_false, if_true, ite_true, ite_false, Bool.not_eq_true', decide_eq_false_iff_not, Bool.not_not]
    rcases any_tuple K hV.ok.1 with ⟨t, ht, hb, hne⟩ | ⟨a, xs, rfl, ha⟩
    · refine rIsi_ty ht hb ⟨false, rfl, ?_⟩
      rw [if_pos rfl]
      rw [rootB_not (wholes_not ht hne)] at kk
      exact kk _ (Same.refl _)
    · refine rIsi_ty (b := true) (tyS_tup ha) (by decide +kernel) ⟨true, rfl, ?_⟩
      rw [if_neg (by decide)]
      simp only [cxK, wipe, tYes, List.map_cons, List.map_nil, rIxL, rSum, tSl, rSlL, tNoPart, tPart, exists_and_left, and_assoc, V.ref.injEq, HO.lst.injEq, HO.tup.injEq, tFor_eq, iRng1, iRng2, iList, iTup, tLc_eq, tLst, tTup, gSub, rSetL, gT, gL, gTup, gCons, gNil, atI_0, atI_1, atI_2, atI_3, List.length_cons, List.length_nil, Nat.zero_add, Nat.reduceAdd, Nat.reduceLeDiff, ixN_30, ixN_31, ixN_32, Int.reduceLT, Int.reduceLE, Int.reduceNeg, upd_same, reduceCtorEq, false_and, exists_false, or_false, false_or, tSeq, tNext, tIfS, tRet, tRetN, tDrop, tAsg, gName, tPar, tPar3, tAug, ipI, tVar, tC, tOp, tUn, tCB, tD, tDK, tCons, tNil, rI, rI0, rU, tB, tTest, tAnd, tOr, tNot, tAndV, tOrV, tNotV, tIf, rEq, rNe, scal_ii, scal_bb, scal_ss, rGcd_eq, tBits, List.set_cons_zero, List.set_cons_succ, List.getElem?_cons_zero, List.getElem?_cons_succ, Option.some.injEq, exists_eq_left', V.int.injEq, V.bl.injEq, V.str.injEq, true_and, and_true, decide_eq_true_eq, List.cons.injEq, exists_eq_left, Bool.false_eq_true, if_false, if_true, ite_true, ite_false, Bool.not_eq_true', decide_eq_false_iff_not, Bool.not_not, ha]
      refine ite2 (fun hn => ?_) (fun hn => ?_)
      · rw [rootB_not (by rw [wholes_tup ha, decide_eq_false hn, Bool.false_and])] at kk
        exact kk _ (Same.refl _)
      · have hn2 := Decidable.not_not.mp hn
        refine ⟨⟨_, SqT.of ha⟩, fun Dd nD => ?_⟩
        refine lcW_tup (xs := xs) (InvBent H Dd xs) ⟨Same.upd nD, upd_same⟩ (fun i H2 _ z => SqT.of (z.1 _ _ ha)) ?_ ?_
        · rintro i x H2 hx ⟨s2, e2⟩
          refine ⟨rfl, ?_⟩
          have hmem : x ∈ xs := List.mem_of_getElem? hx
          have hlt : i < xs.length := (List.getElem?_eq_some_iff.mp hx).1
          have e3 : xs.take (i + 1) = xs.take i ++ [x] := by rw [List.take_succ, hx]; rfl
          obtain ⟨ty, hty⟩ := (hV.ok.2 a xs rfl ha x hmem).same s2
          obtain ⟨_, hm, hi⟩ := tyS_of (K := K) hty
          have keep : isIntV x = false → ∃ acc, H2 Dd = some (.lst acc) ∧ acc.length < sizeLine ∧ InvBent H Dd xs (i + 1) (upd H2 Dd (.lst (acc ++ [x]))) := fun hf => by
            refine ⟨_, e2, small1000 ?_, Same.upd2 s2 nD, ?_⟩
            · have := List.length_filter_le (fun x => !isIntV x) (xs.take i)
              rw [List.length_take] at this
              omega
            · rw [upd_same, e3, List.filter_append, List.filter_cons_of_pos (by rw [hf]; rfl)]
              rfl
          have drop : isIntV x = true → InvBent H Dd xs (i + 1) H2 := fun hf => by
            refine ⟨s2, ?_⟩
            rw [e2, e3, List.filter_append, List.filter_cons_of_neg (by rw [hf]; decide), List.filter_nil, List.append_nil]
          simp only [cxK, wipe, tYes, List.map_cons, List.map_nil, rIxL, rSum, tSl, rSlL, tNoPart, tPart, exists_and_left, and_assoc, V.ref.injEq, HO.lst.injEq, HO.tup.injEq, tFor_eq, iRng1, iRng2, iList, iTup, tLc_eq, tLst, tTup, gSub, rSetL, gT, gL, gTup, gCons, gNil, atI_0, atI_1, atI_2, atI_3, List.length_cons, List.length_nil, Nat.zero_add, Nat.reduceAdd, Nat.reduceLeDiff, ixN_30, ixN_31, ixN_32, Int.reduceLT, Int.reduceLE, Int.reduceNeg, upd_same, reduceCtorEq, false_and, exists_false, or_false, false_or, tSeq, tNext, tIfS, tRet, tRetN, tDrop, tAsg, gName, tPar, tPar3, tAug, ipI, tVar, tC, tOp, tUn, tCB, tD, tDK, tCons, tNil, rI, rI0, rU, tB, tTest, tAnd, tOr, tNot, tAndV, tOrV, tNotV, tIf, rEq, rNe, scal_ii, scal_bb, scal_ss, rGcd_eq, tBits, List.set_cons_zero, List.set_cons_succ, List.getElem?_cons_zero, List.getElem?_cons_succ, Option.some.injEq, exists_eq_left', V.int.injEq, V.bl.injEq, V.str.injEq, true_and, and_true, decide_eq_true_eq, List.cons.injEq, exists_eq_left, Bool.false_eq_true, if_false, if_true, ite_true, ite_false, Bool.not_eq_true', decide_eq_false_iff_not, Bool.not_not]
          simp only [List.mem_cons, List.not_mem_nil, or_false] at hm
          rcases hm with rfl | rfl | rfl | rfl | rfl | rfl | rfl
          · refine rIsi_ty (b := false) hty (by decide +kernel) ⟨false, rfl, ?_⟩
            rw [if_neg (by decide)]
            refine rIsi_ty (b := false) hty (by decide +kernel) ⟨false, rfl, ?_⟩
            exact keep hi
          · refine rIsi_ty (b := true) hty (by decide +kernel) ⟨true, rfl, ?_⟩
            rw [if_pos rfl]
            exact keep hi
          · refine rIsi_ty (b := false) hty (by decide +kernel) ⟨false, rfl, ?_⟩
            rw [if_neg (by decide)]
            refine rIsi_ty (b := true) hty (by decide +kernel) ⟨true, rfl, ?_⟩
            exact drop hi
          all_goals
            refine rIsi_ty (b := false) hty (by decide +kernel) ⟨false, rfl, ?_⟩
            rw [if_neg (by decide)]
            refine rIsi_ty (b := false) hty (by decide +kernel) ⟨false, rfl, ?_⟩
            exact keep hi
        · rintro H2 ⟨s2, e2⟩
          rw [List.take_length] at e2
          refine ⟨by decide, fun E nE => ?_⟩
          have sE : Same H (upd H2 E (.lst [])) := Same.upd2 s2 (s2.free nE)
          obtain ⟨ds, hd1, hd2⟩ := hV.it a xs rfl ha
          refine ne_empty (xs := xs) (f := isIntV) (by rw [upd_ne (ne_of_none e2 nE)]; exact e2) upd_same (dpAll_same sE _ _ hd1) hd2 ⟨_, rfl, ?_⟩
          have eA := sE _ _ ha
          cases hall : xs.all isIntV with
          | false =>
            rw [if_pos (by decide)]
            rw [rootB_not (by rw [wholes_tup ha, hall, Bool.and_false])] at kk
            exact kk _ sE
          | true =>
            rw [if_neg (by decide)]
            have hw : wholesB H 3 (.ref a) = true := by rw [wholes_tup ha, hall, decide_eq_true hn2]; rfl
            obtain ⟨a2, i, j, l, e4, ha2⟩ := wholes3 hw
            cases e4
            rw [rootB3 ha2] at kk
            rw [ha2] at ha
            cases ha
            refine ⟨_, eA, _, atI_2, l, rfl, ite2 (fun hl => ?_) (fun hl => ?_)⟩
            · rw [decide_eq_false (show ¬ 1 ≤ l by omega), Bool.false_and] at kk
              exact kk _ sE
            · rw [decide_eq_true (show 1 ≤ l by omega), Bool.true_and] at kk
              refine ⟨D, rfl, h0, h1, fun H3 s3 => ?_⟩
              have s4 := sE.trans s3
              have e5 := s3 _ _ eA
              simp only [cxK, wipe, tYes, List.map_cons, List.map_nil, rIxL, rSum, tSl, rSlL, tNoPart, tPart, exists_and_left, and_assoc, V.ref.injEq, HO.lst.injEq, HO.tup.injEq, tFor_eq, iRng1, iRng2, iList, iTup, tLc_eq, tLst, tTup, gSub, rSetL, gT, gL, gTup, gCons, gNil, atI_0, atI_1, atI_2, atI_3, List.length_cons, List.length_nil, Nat.zero_add, Nat.reduceAdd, Nat.reduceLeDiff, ixN_30, ixN_31, ixN_32, Int.reduceLT, Int.reduceLE, Int.reduceNeg, upd_same, reduceCtorEq, false_and, exists_false, or_false, false_or, tSeq, tNext, tIfS, tRet, tRetN, tDrop, tAsg, gName, tPar, tPar3, tAug, ipI, tVar, tC, tOp, tUn, tCB, tD, tDK, tCons, tNil, rI, rI0, rU, tB, tTest, tAnd, tOr, tNot, tAndV, tOrV, tNotV, tIf, rEq, rNe, scal_ii, scal_bb, scal_ss, rGcd_eq, tBits, List.set_cons_zero, List.set_cons_succ, List.getElem?_cons_zero, List.getElem?_cons_succ, Option.some.injEq, exists_eq_left', V.int.injEq, V.bl.injEq, V.str.injEq, true_and, and_true, decide_eq_true_eq, List.cons.injEq, exists_eq_left, Bool.false_eq_true, if_false, if_true, ite_true, ite_false, Bool.not_eq_true', decide_eq_false_iff_not, Bool.not_not, e5]
              refine ⟨i, j, rfl, _, e5, _, atI_2, _, _, rfl, ?_⟩
              simp only [cxK, wipe, tYes, List.map_cons, List.map_nil, rIxL, rSum, tSl, rSlL, tNoPart, tPart, exists_and_left, and_assoc, V.ref.injEq, HO.lst.injEq, HO.tup.injEq, tFor_eq, iRng1, iRng2, iList, iTup, tLc_eq, tLst, tTup, gSub, rSetL, gT, gL, gTup, gCons, gNil, atI_0, atI_1, atI_2, atI_3, List.length_cons, List.length_nil, Nat.zero_add, Nat.reduceAdd, Nat.reduceLeDiff, ixN_30, ixN_31, ixN_32, Int.reduceLT, Int.reduceLE, Int.reduceNeg, upd_same, reduceCtorEq, false_and, exists_false, or_false, false_or, tSeq, tNext, tIfS, tRet, tRetN, tDrop, tAsg, gName, tPar, tPar3, tAug, ipI, tVar, tC, tOp, tUn, tCB, tD, tDK, tCons, tNil, rI, rI0, rU, tB, tTest, tAnd, tOr, tNot, tAndV, tOrV, tNotV, tIf, rEq, rNe, scal_ii, scal_bb, scal_ss, rGcd_eq, tBits, List.set_cons_zero, List.set_cons_succ, List.getElem?_cons_zero, List.getElem?_cons_succ, Option.some.injEq, exists_eq_left', V.int.injEq, V.bl.injEq, V.str.injEq, true_and, and_true, decide_eq_true_eq, List.cons.injEq, exists_eq_left, Bool.false_eq_true, if_false, if_true, ite_true, ite_false, Bool.not_eq_true', decide_eq_false_iff_not, Bool.not_not, e5]
              obtain ⟨r0, r1⟩ := rt_le h0
              have hl1 : 1 ≤ l := by omega
              have hpos := gcdI_pos (a := gcdI i j) (show l ≠ 0 by omega)
              refine ite2 (fun hg => ?_) (fun hg => ?_)
              · rw [decide_eq_true (show gcdI (gcdI i j) l ≤ 1 by omega), Bool.true_and] at kk
                refine ite2 (fun hj => ?_) (fun hj => ?_)
                · rw [decide_eq_true hj, Bool.true_or] at kk
                  exact kk _ s4
                · rw [decide_eq_false hj, Bool.false_or] at kk
                  exact ⟨cmw (by omega) (by omega) (by omega) (by omega), kk _ s4⟩
              · rw [decide_eq_false (show ¬ gcdI (gcdI i j) l ≤ 1 by omega), Bool.false_and] at kk
                exact kk _ s4

def InvR02 (g : Addr) (D : Int) (H : Hp) : Nat → SV → Hp → Prop := fun i σ H2 => ∃ t2 t3 t4 t5 t6 t7 t8 t9 ta tb tc td : Option V, σ = [some (.ref g), some (.int D), t2, t3, t4, t5, t6, t7, t8, t9, ta, tb, tc, td] ∧ GenAt H2 g (100100 + 300 * i) ∧ Keep g H H2
def InvL02 (g : Addr) (B : Int) (Dd : Addr) (k : Nat) (H2 : Hp) : Nat → Hp → Prop := fun j H3 => ∃ ns : List Int, H3 Dd = some (.lst (ns.map V.int)) ∧ ns.length = j ∧ (∀ n ∈ ns, n.natAbs < 2 ^ 100) ∧ GenAt H3 g (k + 20 * j) ∧ Keep g H2 H3 ∧ Dd ≠ g
def InvV02 (g : Addr) (D : Int) (i : Nat) (B x y b m : Int) (pd pf N : Addr) (td : Option V) (H : Hp) : Nat → SV → Hp → Prop := fun _ σ H2 => ∃ u v : Option V, σ = [some (.ref g), some (.int D), some (.int (0 + (i : Int))), some (.int B), some (.int x), some (.int y), some (.int b), some (.ref pd), some (.int m), some (.ref pf), some (.ref N), u, v, td] ∧ Same H H2

def g_RootNumber_yxbm {α : Type} : List α → List α
  | [k0, k1, k2, k3] => [k3, k1, k0, k2]
  | _ => []

def g_IsRoot_vm {α : Type} : List α → List α
  | [k0, k1] => [k1, k0]
  | _ => []

theorem okLawRight {f : Addr} {fd : FuncData} (F : Fun K "_law_right" "_law_right" s_LawRight f fd) (T : Txt K mg) {fLawMeasure : Addr} {fdLawMeasure : FuncData} (D_LawMeasure : DefAt P w K mg base 3 "_law_measure" fLawMeasure fdLawMeasure ["_law_generator_here", "_law_figures"] (spMeasure)) {fRootNumber : Addr} {fdRootNumber : FuncData} (D_RootNumber : DefAt P w K mg base 4 "root_number" fRootNumber fdRootNumber ["measure", "x", "y", "below"] (spRootNumber0)) {fLawRandom : Addr} {fdLawRandom : FuncData} (D_LawRandom : DefAt P w K mg base 2 "_law_random" fLawRandom fdLawRandom ["_law_generator_here", "_law_bound"] (spRandom)) {fLawLeast : Addr} {fdLawLeast : FuncData} (D_LawLeast : DefAt P w K mg base 2 "_law_least" fLawLeast fdLawLeast ["_law_measure_here", "_law_x", "_law_y", "_law_below"] (spLeast)) {fIsRoot : Addr} {fdIsRoot : FuncData} (D_IsRoot : DefAt P w K mg base 4 "is_root" fIsRoot fdIsRoot ["measure", "value"] (spIsRoot)) {fLawIsRoot : Addr} {fdLawIsRoot : FuncData} (D_LawIsRoot : DefAt P w K mg base 2 "_law_is_root" fLawIsRoot fdLawIsRoot ["_law_measure_here", "_law_value"] (spLawIsRoot K)) (kb_RootNumber_yxbm : KB0 K fdRootNumber ["measure", "x", "y", "below"] ["y", "x", "below", "measure"] g_RootNumber_yxbm g_RootNumber_yxbm) (kb_IsRoot_vm : KB0 K fdIsRoot ["measure", "value"] ["value", "measure"] g_IsRoot_vm g_IsRoot_vm) : FnG P w K mg base 5 f fd ["_law_generator_here"] (spRight K) := by
  refine fnG_mk F scLawRight (fun vs H Q E h => ?_) (fun cdv A outer s H vs Q E gd hr h => ?_)
  · obtain ⟨g, rfl, _⟩ := h
    rfl
  · obtain ⟨g, rfl, hG, kk⟩ := h
    refine ⟨_, (pss_cons (ps_set (i := 1) scLawRight.nd rfl (Or.inl rfl) (pe_d D_LawMeasure hr (pa_cons (pv 0) (pa_cons pe_int pa_nil))))
        (pss_cons (ps_for PassesOwn.never rfl (pi_range1 rfl T.range (pa_cons pe_int pa_nil)) (pg_name (i := 2) scLawRight.nd rfl (Or.inl rfl)) (pss_cons (ps_set (i := 3) scLawRight.nd rfl (Or.inr rfl) (pe_ix ixL (pe_lst (pa_cons pe_int (pa_cons pe_int (pa_cons (pe_op op_powX pe_int pe_int) pa_nil)))) (pe_d D_LawRandom hr (pa_cons (pv 0) (pa_cons pe_int pa_nil))) (fun _ _ => rfl)))
        (pss_cons (ps_asg (pe_lc (own := [("_law_item", 13)]) (g := gName 13) (tt := tYes) rfl scLawRight.nd (pi_range1 rfl T.range (pa_cons pe_int pa_nil)) (blkOk_by (N := N_LawRight) (sc := defScope s_LawRight) (by decide +kernel)) (fun _ _ _ _ _ => pg_name (i := 13) scLawRight.nd rfl (Or.inl rfl)) (fun _ _ _ _ _ => pts_nil) (fun _ _ _ _ _ => (pe_op op_sub (pe_d D_LawRandom hr (pa_cons (pv 0) (pa_cons (pe_op op_add (pe_op op_mulU pe_int (pv 3)) pe_int) pa_nil))) (pv 3)))) (pg_lstT 3 rfl (pgs_cons (pg_name (i := 4) scLawRight.nd rfl (Or.inl rfl)) (pgs_cons (pg_name (i := 5) scLawRight.nd rfl (Or.inl rfl)) (pgs_cons (pg_name (i := 6) scLawRight.nd rfl (Or.inl rfl)) pgs_nil)))))
        (pss_cons (ps_set (i := 6) scLawRight.nd rfl (Or.inl rfl) (pe_ifExp (pt_cmpR op_ne (pv 6) pe_int (nomark _)) (pv 6) pe_int))
        (pss_cons (ps_par (i := 7) (j := 8) rfl scLawRight.nd rfl rfl (by decide) rfl rfl (pa_cons (pe_d D_LawLeast hr (pa_cons (pv 1) (pa_cons (pv 4) (pa_cons (pv 5) (pa_cons (pv 6) pa_nil))))) (pa_cons (pe_ix ixL (pe_lst (pa_cons pe_int (pa_cons (pe_un un_neg pe_int) (pa_cons pe_int (pa_cons (pe_un un_neg pe_int) (pa_cons pe_int pa_nil)))))) (pe_d D_LawRandom hr (pa_cons (pv 0) (pa_cons pe_int pa_nil))) (fun _ _ => rfl)) pa_nil)) rfl)
        (pss_cons (ps_set (i := 9) scLawRight.nd rfl (Or.inl rfl) (pe_d D_RootNumber hr (pa_cons (pv 1) (pa_cons (pv 4) (pa_cons (pv 5) (pa_cons (pv 6) pa_nil))))))
        (pss_cons (ps_if (PW.pt (pw_or (pt_cmpR op_ne (pe_callB (cr_reprR gd hr.units) (by rfl) T.repr (by decide +kernel) (pa_cons (pv 9) pa_nil)) (pe_callB (cr_reprR gd hr.units) (by rfl) T.repr (by decide +kernel) (pa_cons (pv 7) pa_nil)) (nomark _)) (pw_or (pt_cmpR (op_neD hr.units) (pe_d D_RootNumber hr (pa_cons (pv 1) (pa_cons (pe_op op_mulU (pv 8) (pv 4)) (pa_cons (pe_op op_mulU (pv 8) (pv 5)) (pa_cons (pe_op op_mulU (pv 8) (pv 6)) pa_nil))))) (pv 7) (nomark _)) (pw_or1 (pt_cmpR (op_neD hr.units) (pe_dk D_RootNumber hr kb_RootNumber_yxbm (pk_cons (pv 5) (pk_cons (pv 4) (pk_cons (pv 6) (pk_cons (pv 1) pk_nil))))) (pv 7) (nomark _)))))) (pss_one (ps_ret pe_bl)) pss_nil)
        (pss_cons (ps_set (i := 10) scLawRight.nd rfl (Or.inl rfl) (pe_lst (pa_cons (pv 7) (pa_cons (pe_tup (pa_cons (pv 4) (pa_cons (pv 5) (pa_cons (pv 6) pa_nil)))) (pa_cons (pe_callTy call_list_of (by rfl) T.list (by decide +kernel) (pa_cons (pv 7) pa_nil)) (pa_cons (pe_slice sl_tup (pv 7) po_none (po_some pe_int)) (pa_cons (pe_op op_catT (pv 7) (pe_tup (pa_cons pe_int pa_nil))) (pa_cons (pe_tup (pa_cons (pe_ix ixT (pv 7) pe_int (fun _ _ => rfl)) (pa_cons (pe_ix ixT (pv 7) pe_int (fun _ _ => rfl)) (pa_cons (pe_op op_sub pe_int (pe_ix ixT (pv 7) pe_int (fun _ _ => rfl))) pa_nil)))) (pa_cons (pe_tup (pa_cons (pe_op op_mulU pe_int (pe_ix ixT (pv 7) pe_int (fun _ _ => rfl))) (pa_cons (pe_op op_mulU pe_int (pe_ix ixT (pv 7) pe_int (fun _ _ => rfl))) (pa_cons (pe_op op_mulU pe_int (pe_ix ixT (pv 7) pe_int (fun _ _ => rfl))) pa_nil)))) (pa_cons (pe_tup (pa_cons (pe_ix ixT (pv 7) pe_int (fun _ _ => rfl)) (pa_cons (pe_ix ixT (pv 7) pe_int (fun _ _ => rfl)) (pa_cons pe_int pa_nil)))) (pa_cons (pe_tup (pa_cons (pe_ix ixT (pv 7) pe_int (fun _ _ => rfl)) (pa_cons pe_int (pa_cons pe_int pa_nil)))) (pa_cons (pe_tup (pa_cons pe_bl (pa_cons (pe_ix ixT (pv 7) pe_int (fun _ _ => rfl)) (pa_cons pe_int pa_nil)))) pa_nil))))))))))))
        (pss_cons (ps_set (i := 10) scLawRight.nd rfl (Or.inl rfl) (pe_op op_cat (pv 10) (pe_lst (pa_cons (pe_tup (pa_cons (pe_ix ixT (pv 7) pe_int (fun _ _ => rfl)) (pa_cons (pe_ix ixT (pv 7) pe_int (fun _ _ => rfl)) (pa_cons pe_bl pa_nil)))) (pa_cons (pe_tup (pa_cons (pe_ix ixT (pv 7) pe_int (fun _ _ => rfl)) (pa_cons pe_non (pa_cons pe_int pa_nil)))) (pa_cons (pe_tup (pa_cons pe_str (pa_cons pe_int (pa_cons pe_int pa_nil)))) (pa_cons (pe_tup (pa_cons (pe_lst (pa_cons pe_int pa_nil)) (pa_cons pe_int (pa_cons pe_int pa_nil)))) (pa_cons (pe_tup (pa_cons pe_int (pa_cons pe_int (pa_cons pe_int pa_nil)))) (pa_cons (pe_tup (pa_cons pe_int (pa_cons pe_int (pa_cons pe_int pa_nil)))) (pa_cons (pe_tup (pa_cons pe_int (pa_cons pe_int (pa_cons pe_int pa_nil)))) pa_nil))))))))))
        (pss_one (ps_for PassesOwn.never rfl (pi_list (pv 10)) (pg_name (i := 11) scLawRight.nd rfl (Or.inl rfl)) (pss_cons (ps_set (i := 12) scLawRight.nd rfl (Or.inl rfl) (pe_callB (cr_reprR gd hr.units) (by rfl) T.repr (by decide +kernel) (pa_cons (pv 11) pa_nil)))
        (pss_one (ps_if (PW.pt (pw_or (pt_cmpR op_ne (pe_callB (cr_reprR gd hr.units) (by rfl) T.repr (by decide +kernel) (pa_cons (pe_d D_IsRoot hr (pa_cons (pv 1) (pa_cons (pv 11) pa_nil))) pa_nil)) (pe_callB (cr_reprR gd hr.units) (by rfl) T.repr (by decide +kernel) (pa_cons (pe_d D_LawIsRoot hr (pa_cons (pv 1) (pa_cons (pv 11) pa_nil))) pa_nil)) (nomark _)) (pw_or (pt_cmpR op_ne (pe_dk D_IsRoot hr kb_IsRoot_vm (pk_cons (pv 11) (pk_cons (pv 1) pk_nil))) (pe_d D_IsRoot hr (pa_cons (pv 1) (pa_cons (pv 11) pa_nil))) (nomark _)) (pw_or1 (pt_cmpR op_ne (pe_callB (cr_reprR gd hr.units) (by rfl) T.repr (by decide +kernel) (pa_cons (pv 11) pa_nil)) (pv 12) (nomark _)))))) (pss_one (ps_ret pe_bl)) pss_nil))))))))))))))
        (pss_one (ps_ret pe_bl)))), ?_⟩
    have e0 : start N_LawRight [.ref g] = [some (.ref g), none, none, none, none, none, none, none, none, none, none, none, none, none] := rfl
    rw [e0]
    simp only [cxK, wipe, tYes, List.map_cons, List.map_nil, rIxL, rSum, tSl, rSlL, tNoPart, tPart, exists_and_left, and_assoc, V.ref.injEq, HO.lst.injEq, HO.tup.injEq, tFor_eq, iRng1, iRng2, iList, iTup, tLc_eq, tLst, tTup, gSub, rSetL, gT, gL, gTup, gCons, gNil, atI_0, atI_1, atI_2, atI_3, List.length_cons, List.length_nil, Nat.zero_add, Nat.reduceAdd, Nat.reduceLeDiff, ixN_30, ixN_31, ixN_32, Int.reduceLT, Int.reduceLE, Int.reduceNeg, upd_same, reduceCtorEq, false_and, exists_false, or_false, false_or, tSeq, tNext, tIfS, tRet, tRetN, tDrop, tAsg, gName, tPar, tPar3, tAug, ipI, tVar, tC, tOp, tUn, tCB, tD, tDK, tCons, tNil, rI, rI0, rU, tB, tTest, tAnd, tOr, tNot, tAndV, tOrV, tNotV, tIf, rEq, rNe, scal_ii, scal_bb, scal_ss, rGcd_eq, tBits, List.set_cons_zero, List.set_cons_succ, List.getElem?_cons_zero, List.getElem?_cons_succ, Option.some.injEq, exists_eq_left', V.int.injEq, V.bl.injEq, V.str.injEq, true_and, and_true, decide_eq_true_eq, List.cons.injEq, exists_eq_left, Bool.false_eq_true, if_false, if_true, ite_true, ite_false, Bool.not_eq_true', decide_eq_false_iff_not, Bool.not_not]
    refine ⟨g, 28, 100000, rfl, hG, by decide, by decide, by decide, fun D H1 hM hD G1 K1 => ?_⟩
    simp only [cxK, wipe, tYes, List.map_cons, List.map_nil, rIxL, rSum, tSl, rSlL, tNoPart, tPart, exists_and_left, and_assoc, V.ref.injEq, HO.lst.injEq, HO.tup.injEq, tFor_eq, iRng1, iRng2, iList, iTup, tLc_eq, tLst, tTup, gSub, rSetL, gT, gL, gTup, gCons, gNil, atI_0, atI_1, atI_2, atI_3, List.length_cons, List.length_nil, Nat.zero_add, Nat.reduceAdd, Nat.reduceLeDiff, ixN_30, ixN_31, ixN_32, Int.reduceLT, Int.reduceLE, Int.reduceNeg, upd_same, reduceCtorEq, false_and, exists_false, or_false, false_or, tSeq, tNext, tIfS, tRet, tRetN, tDrop, tAsg, gName, tPar, tPar3, tAug, ipI, tVar, tC, tOp, tUn, tCB, tD, tDK, tCons, tNil, rI, rI0, rU, tB, tTest, tAnd, tOr, tNot, tAndV, tOrV, tNotV, tIf, rEq, rNe, scal_ii, scal_bb, scal_ss, rGcd_eq, tBits, List.set_cons_zero, List.set_cons_succ, List.getElem?_cons_zero, List.getElem?_cons_succ, Option.some.injEq, exists_eq_left', V.int.injEq, V.bl.injEq, V.str.injEq, true_and, and_true, decide_eq_true_eq, List.cons.injEq, exists_eq_left, Bool.false_eq_true, if_false, if_true, ite_true, ite_false, Bool.not_eq_true', decide_eq_false_iff_not, Bool.not_not]
    refine ⟨by decide, by decide, ?_⟩
    refine forW_range (InvR02 g D H) ⟨none, none, none, none, none, none, none, none, none, none, none, none, rfl, G1, K1⟩ ?_ (fun σ' H2 z => ?_)
    · rintro i σ' H2 hi ⟨t2, t3, t4, t5, t6, t7, t8, t9, ta, tb, tc, td, rfl, G2, K2⟩
      simp only [cxK, wipe, tYes, List.map_cons, List.map_nil, rIxL, rSum, tSl, rSlL, tNoPart, tPart, exists_and_left, and_assoc, V.ref.injEq, HO.lst.injEq, HO.tup.injEq, tFor_eq, iRng1, iRng2, iList, iTup, tLc_eq, tLst, tTup, gSub, rSetL, gT, gL, gTup, gCons, gNil, atI_0, atI_1, atI_2, atI_3, List.length_cons, List.length_nil, Nat.zero_add, Nat.reduceAdd, Nat.reduceLeDiff, ixN_30, ixN_31, ixN_32, Int.reduceLT, Int.reduceLE, Int.reduceNeg, upd_same, reduceCtorEq, false_and, exists_false, or_false, false_or, tNext, tIfS, tRet, tRetN, tDrop, tAsg, gName, tPar, tPar3, tAug, ipI, tVar, tC, tOp, tUn, tCB, tD, tDK, tCons, tNil, rI, rI0, rU, tB, tTest, tAnd, tOr, tNot, tAndV, tOrV, tNotV, tIf, rEq, rNe, scal_ii, scal_bb, scal_ss, rGcd_eq, tBits, List.set_cons_zero, List.set_cons_succ, List.getElem?_cons_zero, List.getElem?_cons_succ, Option.some.injEq, exists_eq_left', V.int.injEq, V.bl.injEq, V.str.injEq, true_and, and_true, decide_eq_true_eq, List.cons.injEq, exists_eq_left, Bool.false_eq_true, if_false, if_true, ite_true, ite_false, Bool.not_eq_true', decide_eq_false_iff_not, Bool.not_not]
      refine seq_gen fun C1 hC1 => ?_
      simp only [cxK, wipe, tYes, List.map_cons, List.map_nil, rIxL, rSum, tSl, rSlL, tNoPart, tPart, exists_and_left, and_assoc, V.ref.injEq, HO.lst.injEq, HO.tup.injEq, tFor_eq, iRng1, iRng2, iList, iTup, tLc_eq, tLst, tTup, gSub, rSetL, gT, gL, gTup, gCons, gNil, atI_0, atI_1, atI_2, atI_3, List.length_cons, List.length_nil, Nat.zero_add, Nat.reduceAdd, Nat.reduceLeDiff, ixN_30, ixN_31, ixN_32, Int.reduceLT, Int.reduceLE, Int.reduceNeg, upd_same, reduceCtorEq, false_and, exists_false, or_false, false_or, tNext, tIfS, tRet, tRetN, tDrop, tAsg, gName, tPar, tPar3, tAug, ipI, tVar, tC, tOp, tUn, tCB, tD, tDK, tCons, tNil, rI, rI0, rU, tB, tTest, tAnd, tOr, tNot, tAndV, tOrV, tNotV, tIf, rEq, rNe, scal_ii, scal_bb, scal_ss, rGcd_eq, tBits, List.set_cons_zero, List.set_cons_succ, List.getElem?_cons_zero, List.getElem?_cons_succ, Option.some.injEq, exists_eq_left', V.int.injEq, V.bl.injEq, V.str.injEq, true_and, and_true, decide_eq_true_eq, List.cons.injEq, exists_eq_left, Bool.false_eq_true, if_false, if_true, ite_true, ite_false, Bool.not_eq_true', decide_eq_false_iff_not, Bool.not_not]
      have h5 := hM.1
      refine ⟨cpow (by decide) (by decide) (by decide) (by decide), by decide, fun q nq => ?_⟩
      have hqg := G2.nn nq
      refine ⟨g, 3, 100100 + 300 * i, rfl, G2.same (Same.upd nq), by omega, by decide, by decide, fun r H3 hr0 hr1 G3 K3 => ?_⟩
      obtain ⟨B, hB1, hB2, hB⟩ : ∃ m : Int, 1 ≤ m ∧ m ≤ 10 ^ 20 ∧ atI [V.int 4, V.int 100, V.int (10 ^ Int.toNat 20)] r = some (.int m) := by
        rcases (show r = 0 ∨ r = 1 ∨ r = 2 by omega) with rfl | rfl | rfl
        · exact ⟨4, by decide, by decide, atI_0⟩
        · exact ⟨100, by decide, by decide, atI_1⟩
        · exact ⟨_, by decide +kernel, by decide +kernel, atI_2⟩
      refine ⟨_, r, rfl, K3 q _ hqg upd_same, .int B, hB, ?_⟩
      refine Eq.mpr (hC1 _ _) ?_
      refine seq_gen fun C2 hC2 => ?_
      simp only [cxK, wipe, tYes, List.map_cons, List.map_nil, rIxL, rSum, tSl, rSlL, tNoPart, tPart, exists_and_left, and_assoc, V.ref.injEq, HO.lst.injEq, HO.tup.injEq, tFor_eq, iRng1, iRng2, iList, iTup, tLc_eq, tLst, tTup, gSub, rSetL, gT, gL, gTup, gCons, gNil, atI_0, atI_1, atI_2, atI_3, List.length_cons, List.length_nil, Nat.zero_add, Nat.reduceAdd, Nat.reduceLeDiff, ixN_30, ixN_31, ixN_32, Int.reduceLT, Int.reduceLE, Int.reduceNeg, upd_same, reduceCtorEq, false_and, exists_false, or_false, false_or, tNext, tIfS, tRet, tRetN, tDrop, tAsg, gName, tPar, tPar3, tAug, ipI, tVar, tC, tOp, tUn, tCB, tD, tDK, tCons, tNil, rI, rI0, rU, tB, tTest, tAnd, tOr, tNot, tAndV, tOrV, tNotV, tIf, rEq, rNe, scal_ii, scal_bb, scal_ss, rGcd_eq, tBits, List.set_cons_zero, List.set_cons_succ, List.getElem?_cons_zero, List.getElem?_cons_succ, Option.some.injEq, exists_eq_left', V.int.injEq, V.bl.injEq, V.str.injEq, true_and, and_true, decide_eq_true_eq, List.cons.injEq, exists_eq_left, Bool.false_eq_true, if_false, if_true, ite_true, ite_false, Bool.not_eq_true', decide_eq_false_iff_not, Bool.not_not]
      have K3b : Keep g H2 H3 := (Keep.of (Same.upd nq)).trans K3
      refine ⟨by decide, by decide, fun Dd nD => lcW_range (InvL02 g B Dd (100100 + 300 * i + 20) H3) ⟨[], upd_same, rfl, fun q hq => absurd hq (List.not_mem_nil), G3.upd (G3.nn nD), (Keep.refl g H3).upd nD, G3.nn nD⟩ (fun j H4 hj z => ?_) (fun H4 z => ?_)⟩
      · obtain ⟨ns, eD, el, rs, G4, K4, hDg⟩ := z
        refine ⟨rfl, ?_⟩
        simp only [cxK, wipe, tYes, List.map_cons, List.map_nil, rIxL, rSum, tSl, rSlL, tNoPart, tPart, exists_and_left, and_assoc, V.ref.injEq, HO.lst.injEq, HO.tup.injEq, tFor_eq, iRng1, iRng2, iList, iTup, tLc_eq, tLst, tTup, gSub, rSetL, gT, gL, gTup, gCons, gNil, atI_0, atI_1, atI_2, atI_3, List.length_cons, List.length_nil, Nat.zero_add, Nat.reduceAdd, Nat.reduceLeDiff, ixN_30, ixN_31, ixN_32, Int.reduceLT, Int.reduceLE, Int.reduceNeg, upd_same, reduceCtorEq, false_and, exists_false, or_false, false_or, tSeq, tNext, tIfS, tRet, tRetN, tDrop, tAsg, gName, tPar, tPar3, tAug, ipI, tVar, tC, tOp, tUn, tCB, tD, tDK, tCons, tNil, rI, rI0, rU, tB, tTest, tAnd, tOr, tNot, tAndV, tOrV, tNotV, tIf, rEq, rNe, scal_ii, scal_bb, scal_ss, rGcd_eq, tBits, List.set_cons_zero, List.set_cons_succ, List.getElem?_cons_zero, List.getElem?_cons_succ, Option.some.injEq, exists_eq_left', V.int.injEq, V.bl.injEq, V.str.injEq, true_and, and_true, decide_eq_true_eq, List.cons.injEq, exists_eq_left, Bool.false_eq_true, if_false, if_true, ite_true, ite_false, Bool.not_eq_true', decide_eq_false_iff_not, Bool.not_not]
        refine ⟨cml (by decide) (by decide), g, _, 100100 + 300 * i + 20 + 20 * j, rfl, G4, by omega, by omega, by omega, fun n H5 hn0 hn1 G5 K5 => ?_⟩
        simp only [cxK, wipe, tYes, List.map_cons, List.map_nil, rIxL, rSum, tSl, rSlL, tNoPart, tPart, exists_and_left, and_assoc, V.ref.injEq, HO.lst.injEq, HO.tup.injEq, tFor_eq, iRng1, iRng2, iList, iTup, tLc_eq, tLst, tTup, gSub, rSetL, gT, gL, gTup, gCons, gNil, atI_0, atI_1, atI_2, atI_3, List.length_cons, List.length_nil, Nat.zero_add, Nat.reduceAdd, Nat.reduceLeDiff, ixN_30, ixN_31, ixN_32, Int.reduceLT, Int.reduceLE, Int.reduceNeg, upd_same, reduceCtorEq, false_and, exists_false, or_false, false_or, tSeq, tNext, tIfS, tRet, tRetN, tDrop, tAsg, gName, tPar, tPar3, tAug, ipI, tVar, tC, tOp, tUn, tCB, tD, tDK, tCons, tNil, rI, rI0, rU, tB, tTest, tAnd, tOr, tNot, tAndV, tOrV, tNotV, tIf, rEq, rNe, scal_ii, scal_bb, scal_ss, rGcd_eq, tBits, List.set_cons_zero, List.set_cons_succ, List.getElem?_cons_zero, List.getElem?_cons_succ, Option.some.injEq, exists_eq_left', V.int.injEq, V.bl.injEq, V.str.injEq, true_and, and_true, decide_eq_true_eq, List.cons.injEq, exists_eq_left, Bool.false_eq_true, if_false, if_true, ite_true, ite_false, Bool.not_eq_true', decide_eq_false_iff_not, Bool.not_not]
        refine ⟨_, K5 Dd _ hDg eD, small1000 (by rw [List.length_map]; omega), ns ++ [n - B], ?_, by rw [List.length_append, el]; rfl, fun q hq => ?_, (G5.upd hDg).mono (by omega), (K4.trans K5).upd nD, hDg⟩
        · rw [upd_same, List.map_append]
          rfl
        · rw [List.mem_append, List.mem_singleton] at hq
          rcases hq with hq | rfl
          · exact rs q hq
          · omega
      · obtain ⟨ns, eD, el, rs, G4, K4, hDg⟩ := z
        match ns, el with
        | [x, y, b0], _ =>
        have hx := rs x (by simp)
        have hy := rs y (by simp)
        have hb0 := rs b0 (by simp)
        simp only [List.map_cons, List.map_nil] at eD
        simp only [cxK, wipe, tYes, List.map_cons, List.map_nil, rIxL, rSum, tSl, rSlL, tNoPart, tPart, exists_and_left, and_assoc, V.ref.injEq, HO.lst.injEq, HO.tup.injEq, tFor_eq, iRng1, iRng2, iList, iTup, tLc_eq, tLst, tTup, gSub, rSetL, gT, gL, gTup, gCons, gNil, atI_0, atI_1, atI_2, atI_3, List.length_cons, List.length_nil, Nat.zero_add, Nat.reduceAdd, Nat.reduceLeDiff, ixN_30, ixN_31, ixN_32, Int.reduceLT, Int.reduceLE, Int.reduceNeg, upd_same, reduceCtorEq, false_and, exists_false, or_false, false_or, tNext, tIfS, tRet, tRetN, tDrop, tAsg, gName, tPar, tPar3, tAug, ipI, tVar, tC, tOp, tUn, tCB, tD, tDK, tCons, tNil, rI, rI0, rU, tB, tTest, tAnd, tOr, tNot, tAndV, tOrV, tNotV, tIf, rEq, rNe, scal_ii, scal_bb, scal_ss, rGcd_eq, tBits, List.set_cons_zero, List.set_cons_succ, List.getElem?_cons_zero, List.getElem?_cons_succ, Option.some.injEq, exists_eq_left', V.int.injEq, V.bl.injEq, V.str.injEq, true_and, and_true, decide_eq_true_eq, List.cons.injEq, exists_eq_left, Bool.false_eq_true, if_false, if_true, ite_true, ite_false, Bool.not_eq_true', decide_eq_false_iff_not, Bool.not_not, eD]
        refine Eq.mpr (hC2 _ _) ?_
        refine seq_gen fun C3 hC3 => ?_
        simp only [cxK, wipe, tYes, List.map_cons, List.map_nil, rIxL, rSum, tSl, rSlL, tNoPart, tPart, exists_and_left, and_assoc, V.ref.injEq, HO.lst.injEq, HO.tup.injEq, tFor_eq, iRng1, iRng2, iList, iTup, tLc_eq, tLst, tTup, gSub, rSetL, gT, gL, gTup, gCons, gNil, atI_0, atI_1, atI_2, atI_3, List.length_cons, List.length_nil, Nat.zero_add, Nat.reduceAdd, Nat.reduceLeDiff, ixN_30, ixN_31, ixN_32, Int.reduceLT, Int.reduceLE, Int.reduceNeg, upd_same, reduceCtorEq, false_and, exists_false, or_false, false_or, tNext, tIfS, tRet, tRetN, tDrop, tAsg, gName, tPar, tPar3, tAug, ipI, tVar, tC, tOp, tUn, tCB, tD, tDK, tCons, tNil, rI, rI0, rU, tB, tTest, tAnd, tOr, tNot, tAndV, tOrV, tNotV, tIf, rEq, rNe, scal_ii, scal_bb, scal_ss, rGcd_eq, tBits, List.set_cons_zero, List.set_cons_succ, List.getElem?_cons_zero, List.getElem?_cons_succ, Option.some.injEq, exists_eq_left', V.int.injEq, V.bl.injEq, V.str.injEq, true_and, and_true, decide_eq_true_eq, List.cons.injEq, exists_eq_left, Bool.false_eq_true, if_false, if_true, ite_true, ite_false, Bool.not_eq_true', decide_eq_false_iff_not, Bool.not_not]
        suffices fin : ∀ b : Int, b ≠ 0 → b.natAbs < 2 ^ 100 → C3 [some (V.ref g), some (V.int D), some (V.int (0 + (i : Int))), some (V.int B), some (V.int x), some (V.int y), some (V.int b), t7, t8, t9, ta, tb, tc, td] H4 from ite2 (fun h => fin b0 h hb0) (fun _ => fin 1 (by decide) (by decide))
        intro b hbne hb
        refine Eq.mpr (hC3 _ _) ?_
        refine seq_gen fun C4 hC4 => ?_
        simp only [cxK, wipe, tYes, List.map_cons, List.map_nil, rIxL, rSum, tSl, rSlL, tNoPart, tPart, exists_and_left, and_assoc, V.ref.injEq, HO.lst.injEq, HO.tup.injEq, tFor_eq, iRng1, iRng2, iList, iTup, tLc_eq, tLst, tTup, gSub, rSetL, gT, gL, gTup, gCons, gNil, atI_0, atI_1, atI_2, atI_3, List.length_cons, List.length_nil, Nat.zero_add, Nat.reduceAdd, Nat.reduceLeDiff, ixN_30, ixN_31, ixN_32, Int.reduceLT, Int.reduceLE, Int.reduceNeg, upd_same, reduceCtorEq, false_and, exists_false, or_false, false_or, tNext, tIfS, tRet, tRetN, tDrop, tAsg, gName, tPar, tPar3, tAug, ipI, tVar, tC, tOp, tUn, tCB, tD, tDK, tCons, tNil, rI, rI0, rU, tB, tTest, tAnd, tOr, tNot, tAndV, tOrV, tNotV, tIf, rEq, rNe, scal_ii, scal_bb, scal_ss, rGcd_eq, tBits, List.set_cons_zero, List.set_cons_succ, List.getElem?_cons_zero, List.getElem?_cons_succ, Option.some.injEq, exists_eq_left', V.int.injEq, V.bl.injEq, V.str.injEq, true_and, and_true, decide_eq_true_eq, List.cons.injEq, exists_eq_left, Bool.false_eq_true, if_false, if_true, ite_true, ite_false, Bool.not_eq_true', decide_eq_false_iff_not, Bool.not_not]
        refine ⟨D, x, y, b, rfl, by omega, by omega, up hx (by decide), up hy (by decide), up hb (by decide), hbne, fun pd H5 npd s5 e5 => ?_⟩
        have rd5 : RootAt D H5 pd (least D x y b) := RootAt.least e5 hbne
        have zd : Sz 251 (least D x y b) := least_sz (by omega) hD (up hx (by decide)) (up hy (by decide)) (up hb (by decide)) hbne
        refine ⟨by decide, fun w nw => ?_⟩
        have sw := Same.upd (o := .lst [V.int 1, V.int (-1), V.int 2, V.int (-6), V.int 35]) nw
        have G5 := (G4.same s5).same sw
        have hwg := (G4.same s5).nn nw
        refine ⟨g, 5, _, rfl, G5, by omega, by decide, by decide, fun r2 H6 p0 p1 G6 K6 => ?_⟩
        obtain ⟨m, hm0, hm1, hm⟩ : ∃ m : Int, m ≠ 0 ∧ m.natAbs < 2 ^ 10 ∧ atI [V.int 1, V.int (-1), V.int 2, V.int (-6), V.int 35] r2 = some (.int m) := by
          rcases (show r2 = 0 ∨ r2 = 1 ∨ r2 = 2 ∨ r2 = 3 ∨ r2 = 4 by omega) with rfl | rfl | rfl | rfl | rfl
          · exact ⟨1, by decide, by decide, atI_0⟩
          · exact ⟨-1, by decide, by decide, atI_1⟩
          · exact ⟨2, by decide, by decide, atI_2⟩
          · exact ⟨-6, by decide, by decide, atI_3⟩
          · exact ⟨35, by decide, by decide, atI_nat (j := 4) rfl⟩
        refine ⟨_, r2, rfl, K6 w _ hwg upd_same, .int m, hm, ?_⟩
        have rd6 : RootAt D H6 pd (least D x y b) := K6.root G5 (rd5.same sw)
        have KK : Keep g H2 H6 := (((K3b.trans K4).trans (Keep.of s5)).trans (Keep.of sw)).trans K6
        refine Eq.mpr (hC4 _ _) ?_
        refine seq_gen fun C5 hC5 => ?_
        simp only [cxK, wipe, tYes, List.map_cons, List.map_nil, rIxL, rSum, tSl, rSlL, tNoPart, tPart, exists_and_left, and_assoc, V.ref.injEq, HO.lst.injEq, HO.tup.injEq, tFor_eq, iRng1, iRng2, iList, iTup, tLc_eq, tLst, tTup, gSub, rSetL, gT, gL, gTup, gCons, gNil, atI_0, atI_1, atI_2, atI_3, List.length_cons, List.length_nil, Nat.zero_add, Nat.reduceAdd, Nat.reduceLeDiff, ixN_30, ixN_31, ixN_32, Int.reduceLT, Int.reduceLE, Int.reduceNeg, upd_same, reduceCtorEq, false_and, exists_false, or_false, false_or, tNext, tIfS, tRet, tRetN, tDrop, tAsg, gName, tPar, tPar3, tAug, ipI, tVar, tC, tOp, tUn, tCB, tD, tDK, tCons, tNil, rI, rI0, rU, tB, tTest, tAnd, tOr, tNot, tAndV, tOrV, tNotV, tIf, rEq, rNe, scal_ii, scal_bb, scal_ss, rGcd_eq, tBits, List.set_cons_zero, List.set_cons_succ, List.getElem?_cons_zero, List.getElem?_cons_succ, Option.some.injEq, exists_eq_left', V.int.injEq, V.bl.injEq, V.str.injEq, true_and, and_true, decide_eq_true_eq, List.cons.injEq, exists_eq_left, Bool.false_eq_true, if_false, if_true, ite_true, ite_false, Bool.not_eq_true', decide_eq_false_iff_not, Bool.not_not]
        have d0 : 0 ≤ D := by omega
        have d1 : D < 2 ^ 1000 := by omega
        refine ⟨D, x, y, b, rfl, hM, d1, up hx (by decide), up hy (by decide), up hb (by decide), hbne, fun pf H7 npf s7 e7 => ?_⟩
        have rf7 : RootAt D H7 pf (least D x y b) := RootAt.least e7 hbne
        refine Eq.mpr (hC5 _ _) ?_
        refine seq_gen fun C6 hC6 => ?_
        simp only [cxK, wipe, tYes, List.map_cons, List.map_nil, rIxL, rSum, tSl, rSlL, tNoPart, tPart, exists_and_left, and_assoc, V.ref.injEq, HO.lst.injEq, HO.tup.injEq, tFor_eq, iRng1, iRng2, iList, iTup, tLc_eq, tLst, tTup, gSub, rSetL, gT, gL, gTup, gCons, gNil, atI_0, atI_1, atI_2, atI_3, List.length_cons, List.length_nil, Nat.zero_add, Nat.reduceAdd, Nat.reduceLeDiff, ixN_30, ixN_31, ixN_32, Int.reduceLT, Int.reduceLE, Int.reduceNeg, upd_same, reduceCtorEq, false_and, exists_false, or_false, false_or, tNext, tIfS, tRet, tRetN, tDrop, tAsg, gName, tPar, tPar3, tAug, ipI, tVar, tC, tOp, tUn, tCB, tD, tDK, tCons, tNil, rI, rI0, rU, tB, tTest, tAnd, tOr, tNot, tAndV, tOrV, tNotV, tIf, rEq, rNe, scal_ii, scal_bb, scal_ss, rGcd_eq, tBits, List.set_cons_zero, List.set_cons_succ, List.getElem?_cons_zero, List.getElem?_cons_succ, Option.some.injEq, exists_eq_left', V.int.injEq, V.bl.injEq, V.str.injEq, true_and, and_true, decide_eq_true_eq, List.cons.injEq, exists_eq_left, Bool.false_eq_true, if_false, if_true, ite_true, ite_false, Bool.not_eq_true', decide_eq_false_iff_not, Bool.not_not]
        have rd7 := rd6.same s7
        refine ⟨_, rp_root rf7 zd (by decide), _, rp_root rd7 zd (by decide), ?_⟩
        rw [if_neg (fun h => h rfl)]
        have mm : ∀ z : Int, z.natAbs < 2 ^ 100 → (m * z).natAbs < 2 ^ 2000 := fun z hz => up (wide_lt hm1 hz) (by decide)
        refine ⟨okm hm1 hx (by decide) (by decide), okm hm1 hy (by decide) (by decide), okm hm1 hb (by decide) (by decide), ?_⟩
        refine ⟨D, _, _, _, rfl, hM, d1, mm x hx, mm y hy, mm b hb, mul_ne hm0 hbne, fun pm H8 npm s8 e8 => ?_⟩
        refine ne_roots e8 (rd7.same s8).1 (least_scale hm0 hbne) ⟨false, rfl, ?_⟩
        rw [if_neg (by decide)]
        refine ⟨D, x, y, b, rfl, hM, d1, up hx (by decide), up hy (by decide), up hb (by decide), hbne, fun pk H9 npk s9 e9 => ?_⟩
        refine ne_roots e9 ((rd7.same s8).same s9).1 rfl ⟨false, rfl, ?_⟩
        rw [if_neg (by decide)]
        have k9 := (s7.trans s8).trans s9
        have rd9 := rd6.same k9
        refine Eq.mpr (hC6 _ _) ?_
        refine seq_gen fun C7 hC7 => ?_
        obtain ⟨t, rd, zd⟩ : ∃ t, RootAt D H9 pd t ∧ Sz 251 t := ⟨_, rd9, zd⟩
        have ed : H9 pd = some (.tup [.int t.1, .int t.2.1, .int t.2.2]) := rd.1
        simp only [cxK, wipe, tYes, List.map_cons, List.map_nil, rIxL, rSum, tSl, rSlL, tNoPart, tPart, exists_and_left, and_assoc, V.ref.injEq, HO.lst.injEq, HO.tup.injEq, tFor_eq, iRng1, iRng2, iList, iTup, tLc_eq, tLst, tTup, gSub, rSetL, gT, gL, gTup, gCons, gNil, atI_0, atI_1, atI_2, atI_3, List.length_cons, List.length_nil, Nat.zero_add, Nat.reduceAdd, Nat.reduceLeDiff, ixN_30, ixN_31, ixN_32, Int.reduceLT, Int.reduceLE, Int.reduceNeg, upd_same, reduceCtorEq, false_and, exists_false, or_false, false_or, tNext, tIfS, tRet, tRetN, tDrop, tAsg, gName, tPar, tPar3, tAug, ipI, tVar, tC, tOp, tUn, tCB, tD, tDK, tCons, tNil, rI, rI0, rU, tB, tTest, tAnd, tOr, tNot, tAndV, tOrV, tNotV, tIf, rEq, rNe, scal_ii, scal_bb, scal_ss, rGcd_eq, tBits, List.set_cons_zero, List.set_cons_succ, List.getElem?_cons_zero, List.getElem?_cons_succ, Option.some.injEq, exists_eq_left', V.int.injEq, V.bl.injEq, V.str.injEq, true_and, and_true, decide_eq_true_eq, List.cons.injEq, exists_eq_left, Bool.false_eq_true, if_false, if_true, ite_true, ite_false, Bool.not_eq_true', decide_eq_false_iff_not, Bool.not_not]
        have a0 : Same H9 H9 := Same.refl _
        refine ⟨by decide, fun p1 n1 => ?_⟩
        have s1 : Same H9 (upd H9 p1 (.tup [V.int x, V.int y, V.int b])) := Same.upd n1
        have e1 : (upd H9 p1 (.tup [V.int x, V.int y, V.int b])) p1 = some (.tup [V.int x, V.int y, V.int b]) := upd_same
        have a1 := a0.trans s1
        generalize upd H9 p1 (.tup [V.int x, V.int y, V.int b]) = w1 at s1 e1 a1 ⊢
        refine ⟨_, .inr (SqT.of (a1 _ _ ed)), fun p2 n2 => ?_⟩
        have s2 : Same w1 (upd w1 p2 (.lst [V.int t.1, V.int t.2.1, V.int t.2.2])) := Same.upd n2
        have e2 : (upd w1 p2 (.lst [V.int t.1, V.int t.2.1, V.int t.2.2])) p2 = some (.lst [V.int t.1, V.int t.2.1, V.int t.2.2]) := upd_same
        have a2 := a1.trans s2
        generalize upd w1 p2 (.lst [V.int t.1, V.int t.2.1, V.int t.2.2]) = w2 at s2 e2 a2 ⊢
        refine ⟨pd, _, rfl, SqT.of (a2 _ _ ed), by simp [HT.sIx], fun p3 n3 => ?_⟩
        rw [show cutV [V.int t.1, V.int t.2.1, V.int t.2.2] none (some 2) = [V.int t.1, V.int t.2.1] from rfl]
        have s3 : Same w2 (upd w2 p3 (.tup [V.int t.1, V.int t.2.1])) := Same.upd n3
        have e3 : (upd w2 p3 (.tup [V.int t.1, V.int t.2.1])) p3 = some (.tup [V.int t.1, V.int t.2.1]) := upd_same
        have a3 := a2.trans s3
        generalize upd w2 p3 (.tup [V.int t.1, V.int t.2.1]) = w3 at s3 e3 a3 ⊢
        refine ⟨by decide, fun p4 n4 => ?_⟩
        have s4 : Same w3 (upd w3 p4 (.tup [V.int 1])) := Same.upd n4
        have e4 : (upd w3 p4 (.tup [V.int 1])) p4 = some (.tup [V.int 1]) := upd_same
        have a4 := a3.trans s4
        generalize upd w3 p4 (.tup [V.int 1]) = w4 at s4 e4 a4 ⊢
        refine ⟨pd, p4, _, _, rfl, rfl, SqT.of (a4 _ _ ed), SqT.of e4, by simp, (show 4 ≤ sizeLine by decide), fun h => absurd h (by simp), fun _ p5 n5 => ?_⟩
        rw [show [V.int t.1, V.int t.2.1, V.int t.2.2] ++ [V.int 1] = [V.int t.1, V.int t.2.1, V.int t.2.2, V.int 1] from rfl]
        have s5 : Same w4 (upd w4 p5 (.tup [V.int t.1, V.int t.2.1, V.int t.2.2, V.int 1])) := Same.upd n5
        have e5 : (upd w4 p5 (.tup [V.int t.1, V.int t.2.1, V.int t.2.2, V.int 1])) p5 = some (.tup [V.int t.1, V.int t.2.1, V.int t.2.2, V.int 1]) := upd_same
        have a5 := a4.trans s5
        generalize upd w4 p5 (.tup [V.int t.1, V.int t.2.1, V.int t.2.2, V.int 1]) = w5 at s5 e5 a5 ⊢
        refine ⟨_, a5 _ _ ed, _, atI_0, _, a5 _ _ ed, _, atI_1, _, a5 _ _ ed, _, atI_2, _, rfl, by decide, fun p6 n6 => ?_⟩
        have s6 : Same w5 (upd w5 p6 (.tup [V.int t.1, V.int t.2.1, V.int (0 - t.2.2)])) := Same.upd n6
        have e6 : (upd w5 p6 (.tup [V.int t.1, V.int t.2.1, V.int (0 - t.2.2)])) p6 = some (.tup [V.int t.1, V.int t.2.1, V.int (0 - t.2.2)]) := upd_same
        have a6 := a5.trans s6
        generalize upd w5 p6 (.tup [V.int t.1, V.int t.2.1, V.int (0 - t.2.2)]) = w6 at s6 e6 a6 ⊢
        refine ⟨_, a6 _ _ ed, _, atI_0, _, rfl, okm (n := 10) (by decide) zd.1 (by decide) (by decide), _, a6 _ _ ed, _, atI_1, _, rfl, okm (n := 10) (by decide) zd.2.1 (by decide) (by decide), _, a6 _ _ ed, _, atI_2, _, rfl, okm (n := 10) (by decide) zd.2.2 (by decide) (by decide), by decide, fun p7 n7 => ?_⟩
        have s7 : Same w6 (upd w6 p7 (.tup [V.int (2 * t.1), V.int (2 * t.2.1), V.int (2 * t.2.2)])) := Same.upd n7
        have e7 : (upd w6 p7 (.tup [V.int (2 * t.1), V.int (2 * t.2.1), V.int (2 * t.2.2)])) p7 = some (.tup [V.int (2 * t.1), V.int (2 * t.2.1), V.int (2 * t.2.2)]) := upd_same
        have a7 := a6.trans s7
        generalize upd w6 p7 (.tup [V.int (2 * t.1), V.int (2 * t.2.1), V.int (2 * t.2.2)]) = w7 at s7 e7 a7 ⊢
        refine ⟨_, a7 _ _ ed, _, atI_0, _, a7 _ _ ed, _, atI_1, by decide, fun p8 n8 => ?_⟩
        have s8 : Same w7 (upd w7 p8 (.tup [V.int t.1, V.int t.2.1, V.int 0])) := Same.upd n8
        have e8 : (upd w7 p8 (.tup [V.int t.1, V.int t.2.1, V.int 0])) p8 = some (.tup [V.int t.1, V.int t.2.1, V.int 0]) := upd_same
        have a8 := a7.trans s8
        generalize upd w7 p8 (.tup [V.int t.1, V.int t.2.1, V.int 0]) = w8 at s8 e8 a8 ⊢
        refine ⟨_, a8 _ _ ed, _, atI_0, by decide, fun p9 n9 => ?_⟩
        have s9 : Same w8 (upd w8 p9 (.tup [V.int t.1, V.int 0, V.int 1])) := Same.upd n9
        have e9 : (upd w8 p9 (.tup [V.int t.1, V.int 0, V.int 1])) p9 = some (.tup [V.int t.1, V.int 0, V.int 1]) := upd_same
        have a9 := a8.trans s9
        generalize upd w8 p9 (.tup [V.int t.1, V.int 0, V.int 1]) = w9 at s9 e9 a9 ⊢
        refine ⟨_, a9 _ _ ed, _, atI_1, by decide, fun p10 n10 => ?_⟩
        have s10 : Same w9 (upd w9 p10 (.tup [V.bl true, V.int t.2.1, V.int 1])) := Same.upd n10
        have e10 : (upd w9 p10 (.tup [V.bl true, V.int t.2.1, V.int 1])) p10 = some (.tup [V.bl true, V.int t.2.1, V.int 1]) := upd_same
        have a10 := a9.trans s10
        generalize upd w9 p10 (.tup [V.bl true, V.int t.2.1, V.int 1]) = w10 at s10 e10 a10 ⊢
        refine ⟨by decide, fun p11 n11 => ?_⟩
        have s11 : Same w10 (upd w10 p11 (.lst [V.ref pd, V.ref p1, V.ref p2, V.ref p3, V.ref p5, V.ref p6, V.ref p7, V.ref p8, V.ref p9, V.ref p10])) := Same.upd n11
        have e11 : (upd w10 p11 (.lst [V.ref pd, V.ref p1, V.ref p2, V.ref p3, V.ref p5, V.ref p6, V.ref p7, V.ref p8, V.ref p9, V.ref p10])) p11 = some (.lst [V.ref pd, V.ref p1, V.ref p2, V.ref p3, V.ref p5, V.ref p6, V.ref p7, V.ref p8, V.ref p9, V.ref p10]) := upd_same
        have a11 := a10.trans s11
        generalize upd w10 p11 (.lst [V.ref pd, V.ref p1, V.ref p2, V.ref p3, V.ref p5, V.ref p6, V.ref p7, V.ref p8, V.ref p9, V.ref p10]) = w11 at s11 e11 a11 ⊢
        refine Eq.mpr (hC7 _ _) ?_
        refine seq_gen fun C8 hC8 => ?_
        have ed2 := a11 _ _ ed
        simp only [cxK, wipe, tYes, List.map_cons, List.map_nil, rIxL, rSum, tSl, rSlL, tNoPart, tPart, exists_and_left, and_assoc, V.ref.injEq, HO.lst.injEq, HO.tup.injEq, tFor_eq, iRng1, iRng2, iList, iTup, tLc_eq, tLst, tTup, gSub, rSetL, gT, gL, gTup, gCons, gNil, atI_0, atI_1, atI_2, atI_3, List.length_cons, List.length_nil, Nat.zero_add, Nat.reduceAdd, Nat.reduceLeDiff, ixN_30, ixN_31, ixN_32, Int.reduceLT, Int.reduceLE, Int.reduceNeg, upd_same, reduceCtorEq, false_and, exists_false, or_false, false_or, tNext, tIfS, tRet, tRetN, tDrop, tAsg, gName, tPar, tPar3, tAug, ipI, tVar, tC, tOp, tUn, tCB, tD, tDK, tCons, tNil, rI, rI0, rU, tB, tTest, tAnd, tOr, tNot, tAndV, tOrV, tNotV, tIf, rEq, rNe, scal_ii, scal_bb, scal_ss, rGcd_eq, tBits, List.set_cons_zero, List.set_cons_succ, List.getElem?_cons_zero, List.getElem?_cons_succ, Option.some.injEq, exists_eq_left', V.int.injEq, V.bl.injEq, V.str.injEq, true_and, and_true, decide_eq_true_eq, List.cons.injEq, exists_eq_left, Bool.false_eq_true, if_false, if_true, ite_true, ite_false, Bool.not_eq_true', decide_eq_false_iff_not, Bool.not_not, ed2]
        refine ⟨by decide, fun p12 n12 => ?_⟩
        have s12 : Same w11 (upd w11 p12 (.tup [V.int t.1, V.int t.2.1, V.bl true])) := Same.upd n12
        have e12 : (upd w11 p12 (.tup [V.int t.1, V.int t.2.1, V.bl true])) p12 = some (.tup [V.int t.1, V.int t.2.1, V.bl true]) := upd_same
        have a12 := a11.trans s12
        generalize upd w11 p12 (.tup [V.int t.1, V.int t.2.1, V.bl true]) = w12 at s12 e12 a12 ⊢
        refine ⟨_, a12 _ _ ed, _, atI_0, by decide, fun p13 n13 => ?_⟩
        have s13 : Same w12 (upd w12 p13 (.tup [V.int t.1, V.non, V.int 1])) := Same.upd n13
        have e13 : (upd w12 p13 (.tup [V.int t.1, V.non, V.int 1])) p13 = some (.tup [V.int t.1, V.non, V.int 1]) := upd_same
        have a13 := a12.trans s13
        generalize upd w12 p13 (.tup [V.int t.1, V.non, V.int 1]) = w13 at s13 e13 a13 ⊢
        refine ⟨by decide, fun p14 n14 => ?_⟩
        have s14 : Same w13 (upd w13 p14 (.tup [V.str (Str.ofString "1"), V.int 0, V.int 1])) := Same.upd n14
        have e14 : (upd w13 p14 (.tup [V.str (Str.ofString "1"), V.int 0, V.int 1])) p14 = some (.tup [V.str (Str.ofString "1"), V.int 0, V.int 1]) := upd_same
        have a14 := a13.trans s14
        generalize upd w13 p14 (.tup [V.str (Str.ofString "1"), V.int 0, V.int 1]) = w14 at s14 e14 a14 ⊢
        refine ⟨by decide, fun p15 n15 => ?_⟩
        have s15 : Same w14 (upd w14 p15 (.lst [V.int 1])) := Same.upd n15
        have e15 : (upd w14 p15 (.lst [V.int 1])) p15 = some (.lst [V.int 1]) := upd_same
        have a15 := a14.trans s15
        generalize upd w14 p15 (.lst [V.int 1]) = w15 at s15 e15 a15 ⊢
        refine ⟨by decide, fun p16 n16 => ?_⟩
        have s16 : Same w15 (upd w15 p16 (.tup [V.ref p15, V.int 0, V.int 1])) := Same.upd n16
        have e16 : (upd w15 p16 (.tup [V.ref p15, V.int 0, V.int 1])) p16 = some (.tup [V.ref p15, V.int 0, V.int 1]) := upd_same
        have a16 := a15.trans s16
        generalize upd w15 p16 (.tup [V.ref p15, V.int 0, V.int 1]) = w16 at s16 e16 a16 ⊢
        refine ⟨by decide, fun p17 n17 => ?_⟩
        have s17 : Same w16 (upd w16 p17 (.tup [V.int 0, V.int 1, V.int 1])) := Same.upd n17
        have e17 : (upd w16 p17 (.tup [V.int 0, V.int 1, V.int 1])) p17 = some (.tup [V.int 0, V.int 1, V.int 1]) := upd_same
        have a17 := a16.trans s17
        generalize upd w16 p17 (.tup [V.int 0, V.int 1, V.int 1]) = w17 at s17 e17 a17 ⊢
        refine ⟨by decide, fun p18 n18 => ?_⟩
        have s18 : Same w17 (upd w17 p18 (.tup [V.int 0, V.int 0, V.int 1])) := Same.upd n18
        have e18 : (upd w17 p18 (.tup [V.int 0, V.int 0, V.int 1])) p18 = some (.tup [V.int 0, V.int 0, V.int 1]) := upd_same
        have a18 := a17.trans s18
        generalize upd w17 p18 (.tup [V.int 0, V.int 0, V.int 1]) = w18 at s18 e18 a18 ⊢
        refine ⟨by decide, fun p19 n19 => ?_⟩
        have s19 : Same w18 (upd w18 p19 (.tup [V.int 0, V.int 0, V.int 2])) := Same.upd n19
        have e19 : (upd w18 p19 (.tup [V.int 0, V.int 0, V.int 2])) p19 = some (.tup [V.int 0, V.int 0, V.int 2]) := upd_same
        have a19 := a18.trans s19
        generalize upd w18 p19 (.tup [V.int 0, V.int 0, V.int 2]) = w19 at s19 e19 a19 ⊢
        refine ⟨by decide, fun p20 n20 => ?_⟩
        have s20 : Same w19 (upd w19 p20 (.lst [V.ref p12, V.ref p13, V.ref p14, V.ref p16, V.ref p17, V.ref p18, V.ref p19])) := Same.upd n20
        have e20 : (upd w19 p20 (.lst [V.ref p12, V.ref p13, V.ref p14, V.ref p16, V.ref p17, V.ref p18, V.ref p19])) p20 = some (.lst [V.ref p12, V.ref p13, V.ref p14, V.ref p16, V.ref p17, V.ref p18, V.ref p19]) := upd_same
        have a20 := a19.trans s20
        generalize upd w19 p20 (.lst [V.ref p12, V.ref p13, V.ref p14, V.ref p16, V.ref p17, V.ref p18, V.ref p19]) = w20 at s20 e20 a20 ⊢
        refine ⟨p11, p20, _, _, rfl, rfl, (((((((((s12.trans s13).trans s14).trans s15).trans s16).trans s17).trans s18).trans s19).trans s20)) _ _ e11, e20, (show 17 ≤ sizeLine by decide), fun p21 n21 => ?_⟩
        have s21 : Same w20 (upd w20 p21 (.lst ([V.ref pd, V.ref p1, V.ref p2, V.ref p3, V.ref p5, V.ref p6, V.ref p7, V.ref p8, V.ref p9, V.ref p10] ++ [V.ref p12, V.ref p13, V.ref p14, V.ref p16, V.ref p17, V.ref p18, V.ref p19]))) := Same.upd n21
        have e21 : (upd w20 p21 (.lst ([V.ref pd, V.ref p1, V.ref p2, V.ref p3, V.ref p5, V.ref p6, V.ref p7, V.ref p8, V.ref p9, V.ref p10] ++ [V.ref p12, V.ref p13, V.ref p14, V.ref p16, V.ref p17, V.ref p18, V.ref p19]))) p21 = some (.lst ([V.ref pd, V.ref p1, V.ref p2, V.ref p3, V.ref p5, V.ref p6, V.ref p7, V.ref p8, V.ref p9, V.ref p10] ++ [V.ref p12, V.ref p13, V.ref p14, V.ref p16, V.ref p17, V.ref p18, V.ref p19])) := upd_same
        have a21 := a20.trans s21
        generalize upd w20 p21 (.lst ([V.ref pd, V.ref p1, V.ref p2, V.ref p3, V.ref p5, V.ref p6, V.ref p7, V.ref p8, V.ref p9, V.ref p10] ++ [V.ref p12, V.ref p13, V.ref p14, V.ref p16, V.ref p17, V.ref p18, V.ref p19])) = w21 at s21 e21 a21 ⊢
        have items : ∀ v ∈ [V.ref pd, V.ref p1, V.ref p2, V.ref p3, V.ref p5, V.ref p6, V.ref p7, V.ref p8, V.ref p9, V.ref p10] ++ [V.ref p12, V.ref p13, V.ref p14, V.ref p16, V.ref p17, V.ref p18, V.ref p19], ∃ d, Val K w21 v d := by
          intro v hv
          simp only [List.mem_append, List.mem_cons, List.not_mem_nil, or_false] at hv
          rcases hv with (rfl | rfl | rfl | rfl | rfl | rfl | rfl | rfl | rfl | rfl) | (rfl | rfl | rfl | rfl | rfl | rfl | rfl)
          · exact ⟨_, (val_tup ed (.cons (.int zd.1 (by decide)) (.cons (.int zd.2.1 (by decide)) (.cons (.int zd.2.2 (by decide)) .nil))) (Nat.le_of_ble_eq_true rfl)).same ((((((((((((((((((((s1.trans s2).trans s3).trans s4).trans s5).trans s6).trans s7).trans s8).trans s9).trans s10).trans s11).trans s12).trans s13).trans s14).trans s15).trans s16).trans s17).trans s18).trans s19).trans s20).trans s21)⟩
          · exact ⟨_, (val_tup e1 (.cons (.int hx (by decide)) (.cons (.int hy (by decide)) (.cons (.int hb (by decide)) .nil))) (Nat.le_of_ble_eq_true rfl)).same (((((((((((((((((((s2.trans s3).trans s4).trans s5).trans s6).trans s7).trans s8).trans s9).trans s10).trans s11).trans s12).trans s13).trans s14).trans s15).trans s16).trans s17).trans s18).trans s19).trans s20).trans s21)⟩
          · exact ⟨_, (val_lst e2 (.cons (.int zd.1 (by decide)) (.cons (.int zd.2.1 (by decide)) (.cons (.int zd.2.2 (by decide)) .nil))) (Nat.le_of_ble_eq_true rfl)).same ((((((((((((((((((s3.trans s4).trans s5).trans s6).trans s7).trans s8).trans s9).trans s10).trans s11).trans s12).trans s13).trans s14).trans s15).trans s16).trans s17).trans s18).trans s19).trans s20).trans s21)⟩
          · exact ⟨_, (val_tup e3 (.cons (.int zd.1 (by decide)) (.cons (.int zd.2.1 (by decide)) .nil)) (Nat.le_of_ble_eq_true rfl)).same (((((((((((((((((s4.trans s5).trans s6).trans s7).trans s8).trans s9).trans s10).trans s11).trans s12).trans s13).trans s14).trans s15).trans s16).trans s17).trans s18).trans s19).trans s20).trans s21)⟩
          · exact ⟨_, (val_tup e5 (.cons (.int zd.1 (by decide)) (.cons (.int zd.2.1 (by decide)) (.cons (.int zd.2.2 (by decide)) (.cons (.int (n := 10) (by decide) (by decide)) .nil)))) (Nat.le_of_ble_eq_true rfl)).same (((((((((((((((s6.trans s7).trans s8).trans s9).trans s10).trans s11).trans s12).trans s13).trans s14).trans s15).trans s16).trans s17).trans s18).trans s19).trans s20).trans s21)⟩
          · exact ⟨_, (val_tup e6 (.cons (.int zd.1 (by decide)) (.cons (.int zd.2.1 (by decide)) (.cons (.int (n := 252) (by have := zd.2.2; omega) (by decide)) .nil))) (Nat.le_of_ble_eq_true rfl)).same ((((((((((((((s7.trans s8).trans s9).trans s10).trans s11).trans s12).trans s13).trans s14).trans s15).trans s16).trans s17).trans s18).trans s19).trans s20).trans s21)⟩
          · exact ⟨_, (val_tup e7 (.cons (.int (n := 252) (by have := zd.1; omega) (by decide)) (.cons (.int (n := 252) (by have := zd.2.1; omega) (by decide)) (.cons (.int (n := 252) (by have := zd.2.2; omega) (by decide)) .nil))) (Nat.le_of_ble_eq_true rfl)).same (((((((((((((s8.trans s9).trans s10).trans s11).trans s12).trans s13).trans s14).trans s15).trans s16).trans s17).trans s18).trans s19).trans s20).trans s21)⟩
          · exact ⟨_, (val_tup e8 (.cons (.int zd.1 (by decide)) (.cons (.int zd.2.1 (by decide)) (.cons (.int (n := 10) (by decide) (by decide)) .nil))) (Nat.le_of_ble_eq_true rfl)).same ((((((((((((s9.trans s10).trans s11).trans s12).trans s13).trans s14).trans s15).trans s16).trans s17).trans s18).trans s19).trans s20).trans s21)⟩
          · exact ⟨_, (val_tup e9 (.cons (.int zd.1 (by decide)) (.cons (.int (n := 10) (by decide) (by decide)) (.cons (.int (n := 10) (by decide) (by decide)) .nil))) (Nat.le_of_ble_eq_true rfl)).same (((((((((((s10.trans s11).trans s12).trans s13).trans s14).trans s15).trans s16).trans s17).trans s18).trans s19).trans s20).trans s21)⟩
          · exact ⟨_, (val_tup e10 (.cons (.bl) (.cons (.int zd.2.1 (by decide)) (.cons (.int (n := 10) (by decide) (by decide)) .nil))) (Nat.le_of_ble_eq_true rfl)).same ((((((((((s11.trans s12).trans s13).trans s14).trans s15).trans s16).trans s17).trans s18).trans s19).trans s20).trans s21)⟩
          · exact ⟨_, (val_tup e12 (.cons (.int zd.1 (by decide)) (.cons (.int zd.2.1 (by decide)) (.cons (.bl) .nil))) (Nat.le_of_ble_eq_true rfl)).same ((((((((s13.trans s14).trans s15).trans s16).trans s17).trans s18).trans s19).trans s20).trans s21)⟩
          · exact ⟨_, (val_tup e13 (.cons (.int zd.1 (by decide)) (.cons (.non) (.cons (.int (n := 10) (by decide) (by decide)) .nil))) (Nat.le_of_ble_eq_true rfl)).same (((((((s14.trans s15).trans s16).trans s17).trans s18).trans s19).trans s20).trans s21)⟩
          · exact ⟨_, (val_tup e14 (.cons (.str (by decide +kernel) (by decide +kernel) (by decide +kernel)) (.cons (.int (n := 10) (by decide) (by decide)) (.cons (.int (n := 10) (by decide) (by decide)) .nil))) (Nat.le_of_ble_eq_true rfl)).same ((((((s15.trans s16).trans s17).trans s18).trans s19).trans s20).trans s21)⟩
          · exact ⟨_, (val_tup e16 (.cons (.lst1 (n := 10) (s16 _ _ e15) (by decide) (by decide)) (.cons (.int (n := 10) (by decide) (by decide)) (.cons (.int (n := 10) (by decide) (by decide)) .nil))) (Nat.le_of_ble_eq_true rfl)).same ((((s17.trans s18).trans s19).trans s20).trans s21)⟩
          · exact ⟨_, (val_tup e17 (.cons (.int (n := 10) (by decide) (by decide)) (.cons (.int (n := 10) (by decide) (by decide)) (.cons (.int (n := 10) (by decide) (by decide)) .nil))) (Nat.le_of_ble_eq_true rfl)).same (((s18.trans s19).trans s20).trans s21)⟩
          · exact ⟨_, (val_tup e18 (.cons (.int (n := 10) (by decide) (by decide)) (.cons (.int (n := 10) (by decide) (by decide)) (.cons (.int (n := 10) (by decide) (by decide)) .nil))) (Nat.le_of_ble_eq_true rfl)).same ((s19.trans s20).trans s21)⟩
          · exact ⟨_, (val_tup e19 (.cons (.int (n := 10) (by decide) (by decide)) (.cons (.int (n := 10) (by decide) (by decide)) (.cons (.int (n := 10) (by decide) (by decide)) .nil))) (Nat.le_of_ble_eq_true rfl)).same (s20.trans s21)⟩
        refine Eq.mpr (hC8 _ _) ?_
        simp only [cxK, wipe, tYes, List.map_cons, List.map_nil, rIxL, rSum, tSl, rSlL, tNoPart, tPart, exists_and_left, and_assoc, V.ref.injEq, HO.lst.injEq, HO.tup.injEq, tFor_eq, iRng1, iRng2, iList, iTup, tLc_eq, tLst, tTup, gSub, rSetL, gT, gL, gTup, gCons, gNil, atI_0, atI_1, atI_2, atI_3, List.length_cons, List.length_nil, Nat.zero_add, Nat.reduceAdd, Nat.reduceLeDiff, ixN_30, ixN_31, ixN_32, Int.reduceLT, Int.reduceLE, Int.reduceNeg, upd_same, reduceCtorEq, false_and, exists_false, or_false, false_or, tNext, tIfS, tRet, tRetN, tDrop, tAsg, gName, tPar, tPar3, tAug, ipI, tVar, tC, tOp, tUn, tCB, tD, tDK, tCons, tNil, rI, rI0, rU, tB, tTest, tAnd, tOr, tNot, tAndV, tOrV, tNotV, tIf, rEq, rNe, scal_ii, scal_bb, scal_ss, rGcd_eq, tBits, List.set_cons_zero, List.set_cons_succ, List.getElem?_cons_zero, List.getElem?_cons_succ, Option.some.injEq, exists_eq_left', V.int.injEq, V.bl.injEq, V.str.injEq, true_and, and_true, decide_eq_true_eq, List.cons.injEq, exists_eq_left, Bool.false_eq_true, if_false, if_true, ite_true, ite_false, Bool.not_eq_true', decide_eq_false_iff_not, Bool.not_not]
        refine ⟨⟨_, SqL.of e21⟩, ?_⟩
        refine forW_list (xs := [V.ref pd, V.ref p1, V.ref p2, V.ref p3, V.ref p5, V.ref p6, V.ref p7, V.ref p8, V.ref p9, V.ref p10] ++ [V.ref p12, V.ref p13, V.ref p14, V.ref p16, V.ref p17, V.ref p18, V.ref p19]) (InvV02 g D i B x y b m pd pf p21 td w21) ⟨_, _, rfl, Same.refl _⟩ (fun j σ2 HB _ z => ?_) ?_ ?_
        · obtain ⟨_, _, _, sB⟩ := z
          exact SqL.of (sB _ _ e21)
        · rintro j v σ2 HB hv ⟨u0, v0, rfl, sB⟩
          obtain ⟨d, hv1⟩ := items v (List.mem_of_getElem? hv)
          have hv2 := hv1.same sB
          simp only [cxK, wipe, tYes, List.map_cons, List.map_nil, rIxL, rSum, tSl, rSlL, tNoPart, tPart, exists_and_left, and_assoc, V.ref.injEq, HO.lst.injEq, HO.tup.injEq, tFor_eq, iRng1, iRng2, iList, iTup, tLc_eq, tLst, tTup, gSub, rSetL, gT, gL, gTup, gCons, gNil, atI_0, atI_1, atI_2, atI_3, List.length_cons, List.length_nil, Nat.zero_add, Nat.reduceAdd, Nat.reduceLeDiff, ixN_30, ixN_31, ixN_32, Int.reduceLT, Int.reduceLE, Int.reduceNeg, upd_same, reduceCtorEq, false_and, exists_false, or_false, false_or, tSeq, tNext, tIfS, tRet, tRetN, tDrop, tAsg, gName, tPar, tPar3, tAug, ipI, tVar, tC, tOp, tUn, tCB, tD, tDK, tCons, tNil, rI, rI0, rU, tB, tTest, tAnd, tOr, tNot, tAndV, tOrV, tNotV, tIf, rEq, rNe, scal_ii, scal_bb, scal_ss, rGcd_eq, tBits, List.set_cons_zero, List.set_cons_succ, List.getElem?_cons_zero, List.getElem?_cons_succ, Option.some.injEq, exists_eq_left', V.int.injEq, V.bl.injEq, V.str.injEq, true_and, and_true, decide_eq_true_eq, List.cons.injEq, exists_eq_left, Bool.false_eq_true, if_false, if_true, ite_true, ite_false, Bool.not_eq_true', decide_eq_false_iff_not, Bool.not_not]
          refine ⟨d, hv2.rp, D, v, rfl, hM, by omega, hv2.ok, fun HC sC => ?_⟩
          refine ⟨_, rp_bl, D, v, d, rfl, d0, by omega, hv2.same sC, fun HD sD => ⟨_, rp_bl, ?_⟩⟩
          rw [rootB_same sC hv2.ok.1, if_neg (fun h => h rfl)]
          have sCD := sC.trans sD
          refine ⟨D, v, rfl, hM, by omega, (hv2.same sCD).ok, fun HE sE => ⟨D, v, rfl, hM, by omega, ((hv2.same sCD).same sE).ok, fun HF sF => ⟨by simp only [scal_bb], ?_⟩⟩⟩
          rw [rootB_same sE (hv2.same sCD).ok.1, if_neg (fun h => h rfl)]
          have sF2 := (sCD.trans sE).trans sF
          refine ⟨_, (hv2.same sF2).rp, ?_⟩
          rw [if_neg (fun h => h rfl)]
          exact ⟨_, _, rfl, sB.trans sF2⟩
        · rintro σ2 HB ⟨u0, v0, rfl, sB⟩
          have SS : Same H6 HB := (k9.trans a21).trans sB
          exact ⟨_, _, _, _, _, _, _, _, _, _, _, _, rfl, (G6.same SS).mono (by omega), (K2.trans KK).trans (Keep.of SS)⟩
    · obtain ⟨t2, t3, t4, t5, t6, t7, t8, t9, ta, tb, tc, td, rfl, G2, K2⟩ := z
      exact kk _ K2

def InvE02 (h : Hp) (Dd : Addr) : Nat → Hp → Prop := fun _ H2 => Same h H2 ∧ H2 Dd = some (.lst [])

theorem okLaw {f : Addr} {fd : FuncData} (F : Fun K "law" "law" s_Law f fd) (T : Txt K mg) {fLawRight : Addr} {fdLawRight : FuncData} (D_LawRight : DefG P w K mg base 5 "_law_right" fLawRight fdLawRight ["_law_generator_here"] (spRight K)) {fLawGenerator : Addr} {fdLawGenerator : FuncData} (D_LawGenerator : DefAt P w K mg base 2 "_law_generator" fLawGenerator fdLawGenerator ["_law_script", "_law_index"] (spGen K)) {fRootNumber : Addr} {fdRootNumber : FuncData} (D_RootNumber : DefAt P w K mg base 4 "root_number" fRootNumber fdRootNumber ["measure", "x", "y", "below"] (spRootNumber0)) {fIsRoot : Addr} {fdIsRoot : FuncData} (D_IsRoot : DefAt P w K mg base 4 "is_root" fIsRoot fdIsRoot ["measure", "value"] (spIsRoot)) : FnG P w K mg base 6 f fd ["_law_script"] (spLaw K) := by
  refine fnG_mk F scLaw (fun vs H Q E h => ?_) (fun cdv A outer s H vs Q E gd hr h => ?_)
  · obtain ⟨a, ns, rfl, _⟩ := h
    rfl
  · obtain ⟨a, ns, rfl, hS, hl, kk⟩ := h
    refine ⟨_, (pss_cons (ps_if (pt_not (pt_val (pe_g D_LawRight gd hr (pa_cons (pe_d D_LawGenerator hr (pa_cons (pv 0) (pa_cons pe_int pa_nil))) pa_nil)))) (pss_one (ps_ret pe_bl)) pss_nil)
        (pss_cons (ps_if (pt_cmpR (op_neD hr.units) (pe_lc (own := [("_law_value", 1)]) (g := gName 1) rfl scLaw.nd (pi_list (pe_lst (pa_cons pe_non (pa_cons pe_int (pa_cons pe_str (pa_cons (pe_lst pa_nil) (pa_cons (pe_tup pa_nil) (pa_cons pe_dnewK (pa_cons pe_bl pa_nil))))))))) (blkOk_by (N := N_Law) (sc := defScope s_Law) (by decide +kernel)) (fun _ _ _ _ _ => pg_name (i := 1) scLaw.nd rfl (Or.inl rfl)) (fun _ _ _ _ _ => (pts_one (pt_cmpR op_notBl (pe_d D_IsRoot hr (pa_cons pe_int (pa_cons (pv 1) pa_nil))) pe_bl (nomark _)))) (fun _ _ _ _ _ => (pv 1))) (pe_lst pa_nil) (nomark _)) (pss_one (ps_ret pe_bl)) pss_nil)
        (pss_one (ps_ret (pe_and (pe_cmpR (op_eqD hr.units) (pe_d D_RootNumber hr (pa_cons pe_int (pa_cons pe_int (pa_cons pe_int (pa_cons pe_int pa_nil))))) (pe_tup (pa_cons pe_int (pa_cons pe_int (pa_cons pe_int pa_nil)))) (nomark _)) (pe_and (pe_cmpR (op_eqD hr.units) (pe_d D_RootNumber hr (pa_cons pe_int (pa_cons pe_int (pa_cons pe_int (pa_cons (pe_un un_neg pe_int) pa_nil))))) (pe_tup (pa_cons (pe_un un_neg pe_int) (pa_cons pe_int (pa_cons pe_int pa_nil)))) (nomark _)) (pe_one (pe_cmpR (op_eqD hr.units) (pe_d D_RootNumber hr (pa_cons pe_int (pa_cons pe_int (pa_cons pe_int (pa_cons pe_int pa_nil))))) (pe_tup (pa_cons pe_int (pa_cons pe_int (pa_cons pe_int pa_nil)))) (nomark _))))))))), ?_⟩
    have e0 : start N_Law [.ref a] = [some (.ref a), none] := rfl
    rw [e0]
    simp only [cxK, wipe, tYes, List.map_cons, List.map_nil, rIxL, rSum, tSl, rSlL, tNoPart, tPart, exists_and_left, and_assoc, V.ref.injEq, HO.lst.injEq, HO.tup.injEq, tFor_eq, iRng1, iRng2, iList, iTup, tLc_eq, tLst, tTup, gSub, rSetL, gT, gL, gTup, gCons, gNil, atI_0, atI_1, atI_2, atI_3, List.length_cons, List.length_nil, Nat.zero_add, Nat.reduceAdd, Nat.reduceLeDiff, ixN_30, ixN_31, ixN_32, Int.reduceLT, Int.reduceLE, Int.reduceNeg, upd_same, reduceCtorEq, false_and, exists_false, or_false, false_or, tNext, tIfS, tRet, tRetN, tDrop, tAsg, gName, tPar, tPar3, tAug, ipI, tVar, tC, tOp, tUn, tCB, tD, tDK, tCons, tNil, rI, rI0, rU, tB, tTest, tAnd, tOr, tNot, tAndV, tOrV, tNotV, tIf, rEq, rNe, scal_ii, scal_bb, scal_ss, rGcd_eq, tBits, List.set_cons_zero, List.set_cons_succ, List.getElem?_cons_zero, List.getElem?_cons_succ, Option.some.injEq, exists_eq_left', V.int.injEq, V.bl.injEq, V.str.injEq, true_and, and_true, decide_eq_true_eq, List.cons.injEq, exists_eq_left, Bool.false_eq_true, if_false, if_true, ite_true, ite_false, Bool.not_eq_true', decide_eq_false_iff_not, Bool.not_not]
    refine seq_gen fun C1 hC1 => ?_
    simp only [cxK, wipe, tYes, List.map_cons, List.map_nil, rIxL, rSum, tSl, rSlL, tNoPart, tPart, exists_and_left, and_assoc, V.ref.injEq, HO.lst.injEq, HO.tup.injEq, tFor_eq, iRng1, iRng2, iList, iTup, tLc_eq, tLst, tTup, gSub, rSetL, gT, gL, gTup, gCons, gNil, atI_0, atI_1, atI_2, atI_3, List.length_cons, List.length_nil, Nat.zero_add, Nat.reduceAdd, Nat.reduceLeDiff, ixN_30, ixN_31, ixN_32, Int.reduceLT, Int.reduceLE, Int.reduceNeg, upd_same, reduceCtorEq, false_and, exists_false, or_false, false_or, tNext, tIfS, tRet, tRetN, tDrop, tAsg, gName, tPar, tPar3, tAug, ipI, tVar, tC, tOp, tUn, tCB, tD, tDK, tCons, tNil, rI, rI0, rU, tB, tTest, tAnd, tOr, tNot, tAndV, tOrV, tNotV, tIf, rEq, rNe, scal_ii, scal_bb, scal_ss, rGcd_eq, tBits, List.set_cons_zero, List.set_cons_succ, List.getElem?_cons_zero, List.getElem?_cons_succ, Option.some.injEq, exists_eq_left', V.int.injEq, V.bl.injEq, V.str.injEq, true_and, and_true, decide_eq_true_eq, List.cons.injEq, exists_eq_left, Bool.false_eq_true, if_false, if_true, ite_true, ite_false, Bool.not_eq_true', decide_eq_false_iff_not, Bool.not_not]
    refine ⟨a, ns, 0, rfl, hS, by decide, by decide, fun g H0 ng s0 G0 => ?_⟩
    refine ⟨g, rfl, G0, fun H1 K1 => ⟨true, rfl, ?_⟩⟩
    rw [if_neg (by decide)]
    refine Eq.mpr (hC1 _ _) ?_
    refine seq_gen fun C2 hC2 => ?_
    simp only [cxK, wipe, tYes, List.map_cons, List.map_nil, rIxL, rSum, tSl, rSlL, tNoPart, tPart, exists_and_left, and_assoc, V.ref.injEq, HO.lst.injEq, HO.tup.injEq, tFor_eq, iRng1, iRng2, iList, iTup, tLc_eq, tLst, tTup, gSub, rSetL, gT, gL, gTup, gCons, gNil, atI_0, atI_1, atI_2, atI_3, List.length_cons, List.length_nil, Nat.zero_add, Nat.reduceAdd, Nat.reduceLeDiff, ixN_30, ixN_31, ixN_32, Int.reduceLT, Int.reduceLE, Int.reduceNeg, upd_same, reduceCtorEq, false_and, exists_false, or_false, false_or, tNext, tIfS, tRet, tRetN, tDrop, tAsg, gName, tPar, tPar3, tAug, ipI, tVar, tC, tOp, tUn, tCB, tD, tDK, tCons, tNil, rI, rI0, rU, tB, tTest, tAnd, tOr, tNot, tAndV, tOrV, tNotV, tIf, rEq, rNe, scal_ii, scal_bb, scal_ss, rGcd_eq, tBits, List.set_cons_zero, List.set_cons_succ, List.getElem?_cons_zero, List.getElem?_cons_succ, Option.some.injEq, exists_eq_left', V.int.injEq, V.bl.injEq, V.str.injEq, true_and, and_true, decide_eq_true_eq, List.cons.injEq, exists_eq_left, Bool.false_eq_true, if_false, if_true, ite_true, ite_false, Bool.not_eq_true', decide_eq_false_iff_not, Bool.not_not, tDNewK]
    refine ⟨by decide, fun p1 n1 => ⟨by decide, fun p2 n2 p3 n3 => ⟨by decide, fun p4 n4 => ⟨⟨_, SqL.of upd_same⟩, fun Dd nD => ?_⟩⟩⟩⟩
    have e4 : upd (upd (upd (upd H1 p1 (.lst [])) p2 (.tup [])) p3 (.dK [])) p4 (.lst [V.non, V.int 0, V.str (Str.ofString "x"), V.ref p1, V.ref p2, V.ref p3, V.bl true]) p4 = some (.lst [V.non, V.int 0, V.str (Str.ofString "x"), V.ref p1, V.ref p2, V.ref p3, V.bl true]) := upd_same
    have e3 : upd (upd (upd (upd H1 p1 (.lst [])) p2 (.tup [])) p3 (.dK [])) p4 (.lst [V.non, V.int 0, V.str (Str.ofString "x"), V.ref p1, V.ref p2, V.ref p3, V.bl true]) p3 = some (.dK []) := by
      rw [upd_ne (ne_new n4)]
      exact upd_same
    have e2 : upd (upd (upd (upd H1 p1 (.lst [])) p2 (.tup [])) p3 (.dK [])) p4 (.lst [V.non, V.int 0, V.str (Str.ofString "x"), V.ref p1, V.ref p2, V.ref p3, V.bl true]) p2 = some (.tup []) := (Same.upd n4) _ _ ((Same.upd n3) _ _ upd_same)
    have e1 : upd (upd (upd (upd H1 p1 (.lst [])) p2 (.tup [])) p3 (.dK [])) p4 (.lst [V.non, V.int 0, V.str (Str.ofString "x"), V.ref p1, V.ref p2, V.ref p3, V.bl true]) p1 = some (.lst []) := (Same.upd n4) _ _ ((Same.upd n3) _ _ ((Same.upd n2) _ _ upd_same))
    generalize upd (upd (upd (upd H1 p1 (.lst [])) p2 (.tup [])) p3 (.dK [])) p4 (.lst [V.non, V.int 0, V.str (Str.ofString "x"), V.ref p1, V.ref p2, V.ref p3, V.bl true]) = h at *
    have items : ∀ v ∈ [V.non, V.int 0, V.str (Str.ofString "x"), V.ref p1, V.ref p2, V.ref p3, V.bl true], OkV h v ∧ rootB 5 h v = false := by
      intro v hv
      simp only [List.mem_cons, List.not_mem_nil, or_false] at hv
      rcases hv with rfl | rfl | rfl | rfl | rfl | rfl | rfl
      · exact ⟨okV_of (t := "NoneType") rfl (by decide), rootB_of (t := "NoneType") rfl (by decide)⟩
      · exact ⟨okV_of (t := "int") rfl (by decide), rootB_of (t := "int") rfl (by decide)⟩
      · exact ⟨okV_of (t := "str") rfl (by decide), rootB_of (t := "str") rfl (by decide)⟩
      · exact ⟨okV_of (tyS_lst e1) (by decide), rootB_of (tyS_lst e1) (by decide)⟩
      · exact ⟨okV_tup0 e2, rootB_tup0 e2⟩
      · exact ⟨okV_of (tyS_dK e3) (by decide), rootB_of (tyS_dK e3) (by decide)⟩
      · exact ⟨okV_of (t := "bool") rfl (by decide), rootB_of (t := "bool") rfl (by decide)⟩
    refine lcW_list (xs := [V.non, V.int 0, V.str (Str.ofString "x"), V.ref p1, V.ref p2, V.ref p3, V.bl true]) (InvE02 h Dd) ⟨Same.upd nD, upd_same⟩ (fun j H2 _ z => SqL.of (z.1 _ _ e4)) ?_ ?_
    · rintro j v H2 hv ⟨s2, f2⟩
      obtain ⟨ok, rb⟩ := items v (List.mem_of_getElem? hv)
      refine ⟨rfl, ?_⟩
      simp only [cxK, wipe, tYes, List.map_cons, List.map_nil, rIxL, rSum, tSl, rSlL, tNoPart, tPart, exists_and_left, and_assoc, V.ref.injEq, HO.lst.injEq, HO.tup.injEq, tFor_eq, iRng1, iRng2, iList, iTup, tLc_eq, tLst, tTup, gSub, rSetL, gT, gL, gTup, gCons, gNil, atI_0, atI_1, atI_2, atI_3, List.length_cons, List.length_nil, Nat.zero_add, Nat.reduceAdd, Nat.reduceLeDiff, ixN_30, ixN_31, ixN_32, Int.reduceLT, Int.reduceLE, Int.reduceNeg, upd_same, reduceCtorEq, false_and, exists_false, or_false, false_or, tSeq, tNext, tIfS, tRet, tRetN, tDrop, tAsg, gName, tPar, tPar3, tAug, ipI, tVar, tC, tOp, tUn, tCB, tD, tDK, tCons, tNil, rI, rI0, rU, tB, tTest, tAnd, tOr, tNot, tAndV, tOrV, tNotV, tIf, rEq, rNe, scal_ii, scal_bb, scal_ss, rGcd_eq, tBits, List.set_cons_zero, List.set_cons_succ, List.getElem?_cons_zero, List.getElem?_cons_succ, Option.some.injEq, exists_eq_left', V.int.injEq, V.bl.injEq, V.str.injEq, true_and, and_true, decide_eq_true_eq, List.cons.injEq, exists_eq_left, Bool.false_eq_true, if_false, if_true, ite_true, ite_false, Bool.not_eq_true', decide_eq_false_iff_not, Bool.not_not]
      refine ⟨5, v, rfl, ⟨by decide, by decide⟩, by decide, ok.same s2, fun H3 s3 => ?_⟩
      rw [rootB_same s2 ok.1, rb]
      refine ⟨false, false, rfl, rfl, ?_⟩
      refine ⟨_, rfl, ?_⟩
      rw [if_neg (by decide)]
      exact ⟨s2.trans s3, s3 _ _ f2⟩
    · rintro H2 ⟨s2, f2⟩
      refine ⟨by decide, fun E nE => ?_⟩
      refine ne_nil ((Same.upd nE) _ _ f2) upd_same ⟨false, rfl, ?_⟩
      rw [if_neg (by decide)]
      refine Eq.mpr (hC2 _ _) ?_
      simp only [cxK, wipe, tYes, List.map_cons, List.map_nil, rIxL, rSum, tSl, rSlL, tNoPart, tPart, exists_and_left, and_assoc, V.ref.injEq, HO.lst.injEq, HO.tup.injEq, tFor_eq, iRng1, iRng2, iList, iTup, tLc_eq, tLst, tTup, gSub, rSetL, gT, gL, gTup, gCons, gNil, atI_0, atI_1, atI_2, atI_3, List.length_cons, List.length_nil, Nat.zero_add, Nat.reduceAdd, Nat.reduceLeDiff, ixN_30, ixN_31, ixN_32, Int.reduceLT, Int.reduceLE, Int.reduceNeg, upd_same, reduceCtorEq, false_and, exists_false, or_false, false_or, tSeq, tNext, tIfS, tRet, tRetN, tDrop, tAsg, gName, tPar, tPar3, tAug, ipI, tVar, tC, tOp, tUn, tCB, tD, tDK, tCons, tNil, rI, rI0, rU, tB, tTest, tAnd, tOr, tNot, tAndV, tOrV, tNotV, tIf, rEq, rNe, scal_ii, scal_bb, scal_ss, rGcd_eq, tBits, List.set_cons_zero, List.set_cons_succ, List.getElem?_cons_zero, List.getElem?_cons_succ, Option.some.injEq, exists_eq_left', V.int.injEq, V.bl.injEq, V.str.injEq, true_and, and_true, decide_eq_true_eq, List.cons.injEq, exists_eq_left, Bool.false_eq_true, if_false, if_true, ite_true, ite_false, Bool.not_eq_true', decide_eq_false_iff_not, Bool.not_not]
      refine ⟨5, 2, 2, 4, rfl, ⟨by decide, by decide⟩, by decide, by decide, by decide, by decide, by decide, fun q0 J0 m0 z0 f0 => ⟨by decide, fun c0 l0 => ?_⟩⟩
      refine eq_roots (u := ((1, 1, 2) : Int × Int × Int)) ((Same.upd l0) _ _ f0) upd_same (by decide +kernel) ⟨true, rfl, ?_⟩
      rw [if_pos rfl]
      refine ⟨9, 1, 1, -2, rfl, ⟨by decide, by decide⟩, by decide, by decide, by decide, by decide, by decide, fun q1 J1 m1 z1 f1 => ⟨by decide, fun c1 l1 => ?_⟩⟩
      refine eq_roots (u := ((-2, 0, 1) : Int × Int × Int)) ((Same.upd l1) _ _ f1) upd_same (by decide +kernel) ⟨true, rfl, ?_⟩
      rw [if_pos rfl]
      refine ⟨8, 0, 0, 7, rfl, ⟨by decide, by decide⟩, by decide, by decide, by decide, by decide, by decide, fun q2 J2 m2 z2 f2 => ⟨by decide, fun c2 l2 => ?_⟩⟩
      exact eq_roots (u := ((0, 0, 1) : Int × Int × Int)) ((Same.upd l2) _ _ f2) upd_same (by decide +kernel) (kk _)

end
theorem all_mk {l : PySem.W.OpenLaw} {w : World} {K : PySem.W.Frag} {h : Heap} {mg : Str → Option Value} {fa : Addr} (X : K.In h) (G : h.Ns mainGlobals mg) (hfa : mg "law" = some (.ref fa))
    {od0 an0 : Option Addr} {sl0 : Array (Option Value)} {oc0 kV0 dc0 pm0 cd0 ct0 : Value} {f0 : Addr} (a0 : PySem.W.nsIn K mainGlobals "is_whole" = some (some (.ref f0))) (l0 : K.lookup f0 = some ⟨oc0, od0, .func (PySem.W.fnOf "is_whole" "is_whole" (defArgs s_IsWhole) (defBody s_IsWhole) (defScope s_IsWhole) .none kV0 dc0 pm0 an0 cd0 ct0), sl0⟩) (c0 : PySem.W.codeIn K cd0 "is_whole" = true) (k0 : PySem.W.keepIn K (.ref f0) = true)
    {od1 an1 : Option Addr} {sl1 : Array (Option Value)} {oc1 kV1 dc1 pm1 cd1 ct1 : Value} {f1 : Addr} (a1 : PySem.W.nsIn K mainGlobals "_has_whole_root" = some (some (.ref f1))) (l1 : K.lookup f1 = some ⟨oc1, od1, .func (PySem.W.fnOf "_has_whole_root" "_has_whole_root" (defArgs s_HasWholeRoot) (defBody s_HasWholeRoot) (defScope s_HasWholeRoot) .none kV1 dc1 pm1 an1 cd1 ct1), sl1⟩) (c1 : PySem.W.codeIn K cd1 "_has_whole_root" = true) (k1 : PySem.W.keepIn K (.ref f1) = true)
    {od2 an2 : Option Addr} {sl2 : Array (Option Value)} {oc2 kV2 dc2 pm2 cd2 ct2 : Value} {f2 : Addr} (a2 : PySem.W.nsIn K mainGlobals "_law_hash" = some (some (.ref f2))) (l2 : K.lookup f2 = some ⟨oc2, od2, .func (PySem.W.fnOf "_law_hash" "_law_hash" (defArgs s_LawHash) (defBody s_LawHash) (defScope s_LawHash) .none kV2 dc2 pm2 an2 cd2 ct2), sl2⟩) (c2 : PySem.W.codeIn K cd2 "_law_hash" = true) (k2 : PySem.W.keepIn K (.ref f2) = true)
    {od3 an3 : Option Addr} {sl3 : Array (Option Value)} {oc3 kV3 dc3 pm3 cd3 ct3 : Value} {f3 : Addr} (a3 : PySem.W.nsIn K mainGlobals "_law_cell" = some (some (.ref f3))) (l3 : K.lookup f3 = some ⟨oc3, od3, .func (PySem.W.fnOf "_law_cell" "_law_cell" (defArgs s_LawCell) (defBody s_LawCell) (defScope s_LawCell) .none kV3 dc3 pm3 an3 cd3 ct3), sl3⟩) (c3 : PySem.W.codeIn K cd3 "_law_cell" = true) (k3 : PySem.W.keepIn K (.ref f3) = true)
    {od4 an4 : Option Addr} {sl4 : Array (Option Value)} {oc4 kV4 dc4 pm4 cd4 ct4 : Value} {f4 : Addr} (a4 : PySem.W.nsIn K mainGlobals "_law_common" = some (some (.ref f4))) (l4 : K.lookup f4 = some ⟨oc4, od4, .func (PySem.W.fnOf "_law_common" "_law_common" (defArgs s_LawCommon) (defBody s_LawCommon) (defScope s_LawCommon) .none kV4 dc4 pm4 an4 cd4 ct4), sl4⟩) (c4 : PySem.W.codeIn K cd4 "_law_common" = true) (k4 : PySem.W.keepIn K (.ref f4) = true)
    {od5 an5 : Option Addr} {sl5 : Array (Option Value)} {oc5 kV5 dc5 pm5 cd5 ct5 : Value} {f5 : Addr} (a5 : PySem.W.nsIn K mainGlobals "_law_root" = some (some (.ref f5))) (l5 : K.lookup f5 = some ⟨oc5, od5, .func (PySem.W.fnOf "_law_root" "_law_root" (defArgs s_LawRoot) (defBody s_LawRoot) (defScope s_LawRoot) .none kV5 dc5 pm5 an5 cd5 ct5), sl5⟩) (c5 : PySem.W.codeIn K cd5 "_law_root" = true) (k5 : PySem.W.keepIn K (.ref f5) = true)
    {od6 an6 : Option Addr} {sl6 : Array (Option Value)} {oc6 kV6 dc6 pm6 cd6 ct6 : Value} {f6 : Addr} (a6 : PySem.W.nsIn K mainGlobals "are_wholes" = some (some (.ref f6))) (l6 : K.lookup f6 = some ⟨oc6, od6, .func (PySem.W.fnOf "are_wholes" "are_wholes" (defArgs s_AreWholes) (defBody s_AreWholes) (defScope s_AreWholes) .none kV6 dc6 pm6 an6 cd6 ct6), sl6⟩) (c6 : PySem.W.codeIn K cd6 "are_wholes" = true) (k6 : PySem.W.keepIn K (.ref f6) = true)
    {od7 an7 : Option Addr} {sl7 : Array (Option Value)} {oc7 kV7 dc7 pm7 cd7 ct7 : Value} {f7 : Addr} (a7 : PySem.W.nsIn K mainGlobals "is_measure" = some (some (.ref f7))) (l7 : K.lookup f7 = some ⟨oc7, od7, .func (PySem.W.fnOf "is_measure" "is_measure" (defArgs s_IsMeasure) (defBody s_IsMeasure) (defScope s_IsMeasure) .none kV7 dc7 pm7 an7 cd7 ct7), sl7⟩) (c7 : PySem.W.codeIn K cd7 "is_measure" = true) (k7 : PySem.W.keepIn K (.ref f7) = true)
    {od8 an8 : Option Addr} {sl8 : Array (Option Value)} {oc8 kV8 dc8 pm8 cd8 ct8 : Value} {f8 : Addr} (a8 : PySem.W.nsIn K mainGlobals "_reduced" = some (some (.ref f8))) (l8 : K.lookup f8 = some ⟨oc8, od8, .func (PySem.W.fnOf "_reduced" "_reduced" (defArgs s_Reduced) (defBody s_Reduced) (defScope s_Reduced) .none kV8 dc8 pm8 an8 cd8 ct8), sl8⟩) (c8 : PySem.W.codeIn K cd8 "_reduced" = true) (k8 : PySem.W.keepIn K (.ref f8) = true)
    {od9 an9 : Option Addr} {sl9 : Array (Option Value)} {oc9 kV9 dc9 pm9 cd9 ct9 : Value} {f9 : Addr} (a9 : PySem.W.nsIn K mainGlobals "_law_random" = some (some (.ref f9))) (l9 : K.lookup f9 = some ⟨oc9, od9, .func (PySem.W.fnOf "_law_random" "_law_random" (defArgs s_LawRandom) (defBody s_LawRandom) (defScope s_LawRandom) .none kV9 dc9 pm9 an9 cd9 ct9), sl9⟩) (c9 : PySem.W.codeIn K cd9 "_law_random" = true) (k9 : PySem.W.keepIn K (.ref f9) = true)
    {od10 an10 : Option Addr} {sl10 : Array (Option Value)} {oc10 kV10 dc10 pm10 cd10 ct10 : Value} {f10 : Addr} (a10 : PySem.W.nsIn K mainGlobals "_law_generator" = some (some (.ref f10))) (l10 : K.lookup f10 = some ⟨oc10, od10, .func (PySem.W.fnOf "_law_generator" "_law_generator" (defArgs s_LawGenerator) (defBody s_LawGenerator) (defScope s_LawGenerator) .none kV10 dc10 pm10 an10 cd10 ct10), sl10⟩) (c10 : PySem.W.codeIn K cd10 "_law_generator" = true) (k10 : PySem.W.keepIn K (.ref f10) = true)
    {od11 an11 : Option Addr} {sl11 : Array (Option Value)} {oc11 kV11 dc11 pm11 cd11 ct11 : Value} {f11 : Addr} (a11 : PySem.W.nsIn K mainGlobals "_law_least" = some (some (.ref f11))) (l11 : K.lookup f11 = some ⟨oc11, od11, .func (PySem.W.fnOf "_law_least" "_law_least" (defArgs s_LawLeast) (defBody s_LawLeast) (defScope s_LawLeast) .none kV11 dc11 pm11 an11 cd11 ct11), sl11⟩) (c11 : PySem.W.codeIn K cd11 "_law_least" = true) (k11 : PySem.W.keepIn K (.ref f11) = true)
    {od12 an12 : Option Addr} {sl12 : Array (Option Value)} {oc12 kV12 dc12 pm12 cd12 ct12 : Value} {f12 : Addr} (a12 : PySem.W.nsIn K mainGlobals "_law_is_root" = some (some (.ref f12))) (l12 : K.lookup f12 = some ⟨oc12, od12, .func (PySem.W.fnOf "_law_is_root" "_law_is_root" (defArgs s_LawIsRoot) (defBody s_LawIsRoot) (defScope s_LawIsRoot) .none kV12 dc12 pm12 an12 cd12 ct12), sl12⟩) (c12 : PySem.W.codeIn K cd12 "_law_is_root" = true) (k12 : PySem.W.keepIn K (.ref f12) = true)
    {od13 an13 : Option Addr} {sl13 : Array (Option Value)} {oc13 kV13 dc13 pm13 cd13 ct13 : Value} {f13 : Addr} (a13 : PySem.W.nsIn K mainGlobals "check_measure" = some (some (.ref f13))) (l13 : K.lookup f13 = some ⟨oc13, od13, .func (PySem.W.fnOf "check_measure" "check_measure" (defArgs s_CheckMeasure) (defBody s_CheckMeasure) (defScope s_CheckMeasure) .none kV13 dc13 pm13 an13 cd13 ct13), sl13⟩) (c13 : PySem.W.codeIn K cd13 "check_measure" = true) (k13 : PySem.W.keepIn K (.ref f13) = true)
    {od14 an14 : Option Addr} {sl14 : Array (Option Value)} {oc14 kV14 dc14 pm14 cd14 ct14 : Value} {f14 : Addr} (a14 : PySem.W.nsIn K mainGlobals "_is_root_of" = some (some (.ref f14))) (l14 : K.lookup f14 = some ⟨oc14, od14, .func (PySem.W.fnOf "_is_root_of" "_is_root_of" (defArgs s_IsRootOf) (defBody s_IsRootOf) (defScope s_IsRootOf) .none kV14 dc14 pm14 an14 cd14 ct14), sl14⟩) (c14 : PySem.W.codeIn K cd14 "_is_root_of" = true) (k14 : PySem.W.keepIn K (.ref f14) = true)
    {od15 an15 : Option Addr} {sl15 : Array (Option Value)} {oc15 kV15 dc15 pm15 cd15 ct15 : Value} {f15 : Addr} (a15 : PySem.W.nsIn K mainGlobals "_law_measure" = some (some (.ref f15))) (l15 : K.lookup f15 = some ⟨oc15, od15, .func (PySem.W.fnOf "_law_measure" "_law_measure" (defArgs s_LawMeasure) (defBody s_LawMeasure) (defScope s_LawMeasure) .none kV15 dc15 pm15 an15 cd15 ct15), sl15⟩) (c15 : PySem.W.codeIn K cd15 "_law_measure" = true) (k15 : PySem.W.keepIn K (.ref f15) = true)
    {od16 an16 : Option Addr} {sl16 : Array (Option Value)} {oc16 kV16 dc16 pm16 cd16 ct16 : Value} {f16 : Addr} (a16 : PySem.W.nsIn K mainGlobals "is_root" = some (some (.ref f16))) (l16 : K.lookup f16 = some ⟨oc16, od16, .func (PySem.W.fnOf "is_root" "is_root" (defArgs s_IsRoot) (defBody s_IsRoot) (defScope s_IsRoot) .none kV16 dc16 pm16 an16 cd16 ct16), sl16⟩) (c16 : PySem.W.codeIn K cd16 "is_root" = true) (k16 : PySem.W.keepIn K (.ref f16) = true)
    {od17 an17 : Option Addr} {sl17 : Array (Option Value)} {oc17 kV17 dc17 pm17 cd17 ct17 : Value} {f17 : Addr} (a17 : PySem.W.nsIn K mainGlobals "root_number" = some (some (.ref f17))) (l17 : K.lookup f17 = some ⟨oc17, od17, .func (PySem.W.fnOf "root_number" "root_number" (defArgs s_RootNumber) (defBody s_RootNumber) (defScope s_RootNumber) .none kV17 dc17 pm17 an17 cd17 ct17), sl17⟩) (c17 : PySem.W.codeIn K cd17 "root_number" = true) (k17 : PySem.W.keepIn K (.ref f17) = true)
    {od18 an18 : Option Addr} {sl18 : Array (Option Value)} {oc18 kV18 dc18 pm18 cd18 ct18 : Value} {f18 : Addr} (a18 : PySem.W.nsIn K mainGlobals "_law_right" = some (some (.ref f18))) (l18 : K.lookup f18 = some ⟨oc18, od18, .func (PySem.W.fnOf "_law_right" "_law_right" (defArgs s_LawRight) (defBody s_LawRight) (defScope s_LawRight) .none kV18 dc18 pm18 an18 cd18 ct18), sl18⟩) (c18 : PySem.W.codeIn K cd18 "_law_right" = true) (k18 : PySem.W.keepIn K (.ref f18) = true)
    {od19 an19 : Option Addr} {sl19 : Array (Option Value)} {oc19 kV19 dc19 pm19 cd19 ct19 : Value} {f19 : Addr} (a19 : PySem.W.nsIn K mainGlobals "law" = some (some (.ref f19))) (l19 : K.lookup f19 = some ⟨oc19, od19, .func (PySem.W.fnOf "law" "law" (defArgs s_Law) (defBody s_Law) (defScope s_Law) .none kV19 dc19 pm19 an19 cd19 ct19), sl19⟩) (c19 : PySem.W.codeIn K cd19 "law" = true) (k19 : PySem.W.keepIn K (.ref f19) = true) (z_abs : PySem.W.nsIn K mainGlobals "abs" = some none) (z_all : PySem.W.nsIn K mainGlobals "all" = some none) (z_bool : PySem.W.nsIn K mainGlobals "bool" = some none) (z_int : PySem.W.nsIn K mainGlobals "int" = some none) (z_isinstance : PySem.W.nsIn K mainGlobals "isinstance" = some none) (z_len : PySem.W.nsIn K mainGlobals "len" = some none) (z_list : PySem.W.nsIn K mainGlobals "list" = some none) (z_max : PySem.W.nsIn K mainGlobals "max" = some none) (z_range : PySem.W.nsIn K mainGlobals "range" = some none) (z_repr : PySem.W.nsIn K mainGlobals "repr" = some none) (z_sum : PySem.W.nsIn K mainGlobals "sum" = some none) (z_tuple : PySem.W.nsIn K mainGlobals "tuple" = some none) (z_gcd : PySem.W.nsIn K mainGlobals "gcd" = some (some (.builtin "math.gcd"))) (z_isqrt : PySem.W.nsIn K mainGlobals "isqrt" = some (some (.builtin "math.isqrt"))) :
    ∃ fd : FuncData, (∀ (s : Shared) (v : Value), BindsTo s fd ⟨[v], []⟩ [("_law_script", v)]) ∧ ∀ base : Heap, K.In base → base.Ns mainGlobals mg → FnG l.prog w K mg base 6 fa fd ["_law_script"] (Kx.spLaw K) := by
  have e := hfa.symm.trans (PySem.W.mg_of X G a19)
  cases e
  have T : Txt K mg := ⟨PySem.W.mg_none_of X G z_abs, PySem.W.mg_none_of X G z_all, PySem.W.mg_none_of X G z_bool, PySem.W.mg_none_of X G z_int, PySem.W.mg_none_of X G z_isinstance, PySem.W.mg_none_of X G z_len, PySem.W.mg_none_of X G z_list, PySem.W.mg_none_of X G z_max, PySem.W.mg_none_of X G z_range, PySem.W.mg_none_of X G z_repr, PySem.W.mg_none_of X G z_sum, PySem.W.mg_none_of X G z_tuple, PySem.W.mg_of X G z_gcd, PySem.W.mg_of X G z_isqrt⟩
  have F0 := fun_mk (st := s_IsWhole) l0 c0 k0
  have b0 := F0.binds (ps := ["value"]) fun _ _ _ _ _ _ us hl => match us, hl with | [_], _ => rfl
  have F1 := fun_mk (st := s_HasWholeRoot) l1 c1 k1
  have b1 := F1.binds (ps := ["measure"]) fun _ _ _ _ _ _ us hl => match us, hl with | [_], _ => rfl
  have F2 := fun_mk (st := s_LawHash) l2 c2 k2
  have b2 := F2.binds (ps := ["_law_seed", "_law_index"]) fun _ _ _ _ _ _ us hl => match us, hl with | [_, _], _ => rfl
  have F3 := fun_mk (st := s_LawCell) l3 c3 k3
  have b3 := F3.binds (ps := ["_law_script", "_law_index"]) fun _ _ _ _ _ _ us hl => match us, hl with | [_, _], _ => rfl
  have F4 := fun_mk (st := s_LawCommon) l4 c4 k4
  have b4 := F4.binds (ps := ["_law_one", "_law_other"]) fun _ _ _ _ _ _ us hl => match us, hl with | [_, _], _ => rfl
  have F5 := fun_mk (st := s_LawRoot) l5 c5 k5
  have b5 := F5.binds (ps := ["_law_number"]) fun _ _ _ _ _ _ us hl => match us, hl with | [_], _ => rfl
  have F6 := fun_mk (st := s_AreWholes) l6 c6 k6
  have b6 := F6.binds (ps := ["value", "many"]) fun _ _ _ _ _ _ us hl => match us, hl with | [_, _], _ => rfl
  have F7 := fun_mk (st := s_IsMeasure) l7 c7 k7
  have b7 := F7.binds (ps := ["value"]) fun _ _ _ _ _ _ us hl => match us, hl with | [_], _ => rfl
  have F8 := fun_mk (st := s_Reduced) l8 c8 k8
  have b8 := F8.binds (ps := ["measure", "x", "y", "below"]) fun _ _ _ _ _ _ us hl => match us, hl with | [_, _, _, _], _ => rfl
  have F9 := fun_mk (st := s_LawRandom) l9 c9 k9
  have b9 := F9.binds (ps := ["_law_generator_here", "_law_bound"]) fun _ _ _ _ _ _ us hl => match us, hl with | [_, _], _ => rfl
  have F10 := fun_mk (st := s_LawGenerator) l10 c10 k10
  have b10 := F10.binds (ps := ["_law_script", "_law_index"]) fun _ _ _ _ _ _ us hl => match us, hl with | [_, _], _ => rfl
  have F11 := fun_mk (st := s_LawLeast) l11 c11 k11
  have b11 := F11.binds (ps := ["_law_measure_here", "_law_x", "_law_y", "_law_below"]) fun _ _ _ _ _ _ us hl => match us, hl with | [_, _, _, _], _ => rfl
  have F12 := fun_mk (st := s_LawIsRoot) l12 c12 k12
  have b12 := F12.binds (ps := ["_law_measure_here", "_law_value"]) fun _ _ _ _ _ _ us hl => match us, hl with | [_, _], _ => rfl
  have F13 := fun_mk (st := s_CheckMeasure) l13 c13 k13
  have b13 := F13.binds (ps := ["measure"]) fun _ _ _ _ _ _ us hl => match us, hl with | [_], _ => rfl
  have F14 := fun_mk (st := s_IsRootOf) l14 c14 k14
  have b14 := F14.binds (ps := ["measure", "value"]) fun _ _ _ _ _ _ us hl => match us, hl with | [_, _], _ => rfl
  have F15 := fun_mk (st := s_LawMeasure) l15 c15 k15
  have b15 := F15.binds (ps := ["_law_generator_here", "_law_figures"]) fun _ _ _ _ _ _ us hl => match us, hl with | [_, _], _ => rfl
  have F16 := fun_mk (st := s_IsRoot) l16 c16 k16
  have b16 := F16.binds (ps := ["measure", "value"]) fun _ _ _ _ _ _ us hl => match us, hl with | [_, _], _ => rfl
  have F17 := fun_mk (st := s_RootNumber) l17 c17 k17
  have b17 := F17.binds (ps := ["measure", "x", "y", "below"]) fun _ _ _ _ _ _ us hl => match us, hl with | [_, _, _, _], _ => rfl
  have F18 := fun_mk (st := s_LawRight) l18 c18 k18
  have b18 := F18.binds (ps := ["_law_generator_here"]) fun _ _ _ _ _ _ us hl => match us, hl with | [_], _ => rfl
  have F19 := fun_mk (st := s_Law) l19 c19 k19
  have b19 := F19.binds (ps := ["_law_script"]) fun _ _ _ _ _ _ us hl => match us, hl with | [_], _ => rfl
  have kb_IsRoot_vm : KB0 K _ ["measure", "value"] ["value", "measure"] g_IsRoot_vm g_IsRoot_vm := kb_mk F16 (fun _ _ _ _ _ _ ws hl => match ws, hl with | [_, _], _ => rfl) (fun {zs ws} hl r => match zs, hl, ws, r with | [_, _], _, _, (.cons r0 (.cons r1 .nil)) => (.cons r1 (.cons r0 .nil))) (fun zs hl => match zs, hl with | [_, _], _ => rfl)
  have kb_RootNumber_yxbm : KB0 K _ ["measure", "x", "y", "below"] ["y", "x", "below", "measure"] g_RootNumber_yxbm g_RootNumber_yxbm := kb_mk F17 (fun _ _ _ _ _ _ ws hl => match ws, hl with | [_, _, _, _], _ => rfl) (fun {zs ws} hl r => match zs, hl, ws, r with | [_, _, _, _], _, _, (.cons r0 (.cons r1 (.cons r2 (.cons r3 .nil)))) => (.cons r3 (.cons r1 (.cons r0 (.cons r2 .nil))))) (fun zs hl => match zs, hl with | [_, _, _, _], _ => rfl)
  refine ⟨PySem.W.fnOf "law" "law" (defArgs s_Law) (defBody s_Law) (defScope s_Law) .none kV19 dc19 pm19 an19 cd19 ct19, fun s v => .of_eq rfl, fun base _ _ => ?_⟩
  have D_IsWhole : DefAt l.prog w K mg base 1 "is_whole" f0 _ ["value"] (spWhole) := ⟨(okIsWhole (P := l.prog) (w := w) (mg := mg) (base := base) F0 T  ), PySem.W.mg_of X G a0, k0, b0⟩
  have D_HasWholeRoot : DefAt l.prog w K mg base 1 "_has_whole_root" f1 _ ["measure"] (spHasRoot) := ⟨(okHasWholeRoot (P := l.prog) (w := w) (mg := mg) (base := base) F1 T  ), PySem.W.mg_of X G a1, k1, b1⟩
  have D_LawHash : DefAt l.prog w K mg base 1 "_law_hash" f2 _ ["_law_seed", "_law_index"] (spHash) := ⟨(okLawHash (P := l.prog) (w := w) (mg := mg) (base := base) F2 T  ), PySem.W.mg_of X G a2, k2, b2⟩
  have D_LawCell : DefAt l.prog w K mg base 1 "_law_cell" f3 _ ["_law_script", "_law_index"] (spCell K) := ⟨(okLawCell (P := l.prog) (w := w) (mg := mg) (base := base) F3 T  ), PySem.W.mg_of X G a3, k3, b3⟩
  have D_LawCommon : DefAt l.prog w K mg base 1 "_law_common" f4 _ ["_law_one", "_law_other"] (spCommon) := ⟨(okLawCommon (P := l.prog) (w := w) (mg := mg) (base := base) F4 T  ), PySem.W.mg_of X G a4, k4, b4⟩
  have D_LawRoot : DefAt l.prog w K mg base 1 "_law_root" f5 _ ["_law_number"] (spRoot) := ⟨(okLawRoot (P := l.prog) (w := w) (mg := mg) (base := base) F5 T  ), PySem.W.mg_of X G a5, k5, b5⟩
  have D_AreWholes : DefAt l.prog w K mg base 2 "are_wholes" f6 _ ["value", "many"] (spWholes) := ⟨(okAreWholes (P := l.prog) (w := w) (mg := mg) (base := base) F6 T D_IsWhole ), PySem.W.mg_of X G a6, k6, b6⟩
  have D_IsMeasure : DefAt l.prog w K mg base 2 "is_measure" f7 _ ["value"] (spIsMeasure) := ⟨(okIsMeasure (P := l.prog) (w := w) (mg := mg) (base := base) F7 T D_IsWhole ), PySem.W.mg_of X G a7, k7, b7⟩
  have D_Reduced : DefAt l.prog w K mg base 2 "_reduced" f8 _ ["measure", "x", "y", "below"] (spReduced) := ⟨(okReduced (P := l.prog) (w := w) (mg := mg) (base := base) F8 T D_HasWholeRoot ), PySem.W.mg_of X G a8, k8, b8⟩
  have D_LawRandom : DefAt l.prog w K mg base 2 "_law_random" f9 _ ["_law_generator_here", "_law_bound"] (spRandom) := ⟨(okLawRandom (P := l.prog) (w := w) (mg := mg) (base := base) F9 T D_LawHash ), PySem.W.mg_of X G a9, k9, b9⟩
  have D_LawGenerator : DefAt l.prog w K mg base 2 "_law_generator" f10 _ ["_law_script", "_law_index"] (spGen K) := ⟨(okLawGenerator (P := l.prog) (w := w) (mg := mg) (base := base) F10 T D_LawCell ), PySem.W.mg_of X G a10, k10, b10⟩
  have D_LawLeast : DefAt l.prog w K mg base 2 "_law_least" f11 _ ["_law_measure_here", "_law_x", "_law_y", "_law_below"] (spLeast) := ⟨(okLawLeast (P := l.prog) (w := w) (mg := mg) (base := base) F11 T D_LawRoot D_LawCommon ), PySem.W.mg_of X G a11, k11, b11⟩
  have D_LawIsRoot : DefAt l.prog w K mg base 2 "_law_is_root" f12 _ ["_law_measure_here", "_law_value"] (spLawIsRoot K) := ⟨(okLawIsRoot (P := l.prog) (w := w) (mg := mg) (base := base) F12 T D_LawRoot D_LawCommon ), PySem.W.mg_of X G a12, k12, b12⟩
  have D_CheckMeasure : DefAt l.prog w K mg base 3 "check_measure" f13 _ ["measure"] (spCheckMeasure0) := ⟨(okCheckMeasure (P := l.prog) (w := w) (mg := mg) (base := base) F13 T D_IsMeasure ), PySem.W.mg_of X G a13, k13, b13⟩
  have D_IsRootOf : DefAt l.prog w K mg base 3 "_is_root_of" f14 _ ["measure", "value"] (spIsRootOf) := ⟨(okIsRootOf (P := l.prog) (w := w) (mg := mg) (base := base) F14 T D_AreWholes D_HasWholeRoot ), PySem.W.mg_of X G a14, k14, b14⟩
  have D_LawMeasure : DefAt l.prog w K mg base 3 "_law_measure" f15 _ ["_law_generator_here", "_law_figures"] (spMeasure) := ⟨(okLawMeasure (P := l.prog) (w := w) (mg := mg) (base := base) F15 T D_LawRandom D_LawRoot ), PySem.W.mg_of X G a15, k15, b15⟩
  have D_IsRoot : DefAt l.prog w K mg base 4 "is_root" f16 _ ["measure", "value"] (spIsRoot) := ⟨(okIsRoot (P := l.prog) (w := w) (mg := mg) (base := base) F16 T D_CheckMeasure D_IsRootOf ), PySem.W.mg_of X G a16, k16, b16⟩
  have D_RootNumber : DefAt l.prog w K mg base 4 "root_number" f17 _ ["measure", "x", "y", "below"] (spRootNumber0) := ⟨(okRootNumber (P := l.prog) (w := w) (mg := mg) (base := base) F17 T D_CheckMeasure D_Reduced D_IsWhole ), PySem.W.mg_of X G a17, k17, b17⟩
  have D_LawRight : DefG l.prog w K mg base 5 "_law_right" f18 _ ["_law_generator_here"] (spRight K) := ⟨(okLawRight (P := l.prog) (w := w) (mg := mg) (base := base) F18 T D_LawMeasure D_RootNumber D_LawRandom D_LawLeast D_IsRoot D_LawIsRoot kb_RootNumber_yxbm kb_IsRoot_vm), PySem.W.mg_of X G a18, k18, b18⟩
  exact (okLaw (P := l.prog) (w := w) (mg := mg) (base := base) F19 T D_LawRight D_LawGenerator D_RootNumber D_IsRoot )
theorem walk {l : PySem.W.OpenLaw} {q : Program} {loose : List Str} {XP : (Str → Option Value) → Heap → Prop} {YP : World → Heap → Prop} {d : DefRec} {K : Params → PySem.W.Frag} (hn : l.most = some 63) (hdf : d.params.defaults = [])
    (hY : ∀ (w : World) (h : Heap), YP w h → (K w.params).In h)
    (F : ∀ (w : World) (mg : Str → Option Value) (fa : Addr) (h : Heap), (K w.params).In h → h.Ns mainGlobals mg → mg d.name = some (.ref fa) →
      ∃ fd : FuncData, (∀ (s : Shared) (u : Value), BindsTo s fd ⟨[u], []⟩ [("_law_script", u)]) ∧ ∀ base : Heap, (K w.params).In base → base.Ns mainGlobals mg → FnG l.prog w (K w.params) mg base 6 fa fd ["_law_script"] (Kx.spLaw (K w.params))) :
    PySem.W.WalkO q loose XP YP l.row.toRowW d [] (fun f vs => PySem.call f vs) :=
  Kx.walkG (n := 63) (k := 6) (x := "_law_script") (sp := fun w => Kx.spLaw (K w.params)) hn (by decide) hdf ⟨rfl, by decide, by decide⟩ hY F (fun _ _ a ns hl _ hS => ⟨a, ns, rfl, hS, hl, fun _ => rfl⟩)
end L02

open PySem PySem.W PyProof.Rows
set_option maxRecDepth 100000 in
set_option maxHeartbeats 0 in
theorem PySem.Challenge.cw_slitsheets_k02_whole_root_numbers_made_holds : PySem.Challenge.rw_slitsheets_k02_whole_root_numbers_made.Holds := by
  w_on; o_law; k_head; (case hw => w_witness2)
  k_fill
  refine L02.walk (l := PySem.Challenge.rw_slitsheets_k02_whole_root_numbers_made) rfl rfl (fun w h Y => PySem.W.kIn_of Y) ?F
  case F =>
    intro w mg fa h KX G hmg
    refine' L02.all_mk KX G hmg ?a0 ?l0 ?c0 ?k0 ?a1 ?l1 ?c1 ?k1 ?a2 ?l2 ?c2 ?k2 ?a3 ?l3 ?c3 ?k3 ?a4 ?l4 ?c4 ?k4 ?a5 ?l5 ?c5 ?k5 ?a6 ?l6 ?c6 ?k6 ?a7 ?l7 ?c7 ?k7 ?a8 ?l8 ?c8 ?k8 ?a9 ?l9 ?c9 ?k9 ?a10 ?l10 ?c10 ?k10 ?a11 ?l11 ?c11 ?k11 ?a12 ?l12 ?c12 ?k12 ?a13 ?l13 ?c13 ?k13 ?a14 ?l14 ?c14 ?k14 ?a15 ?l15 ?c15 ?k15 ?a16 ?l16 ?c16 ?k16 ?a17 ?l17 ?c17 ?k17 ?a18 ?l18 ?c18 ?k18 ?a19 ?l19 ?c19 ?k19 ?z_abs ?z_all ?z_bool ?z_int ?z_isinstance ?z_len ?z_list ?z_max ?z_range ?z_repr ?z_sum ?z_tuple ?z_gcd ?z_isqrt
    (case a0 => k_is)
    (case l0 => k_is)
    (case c0 => k_is)
    (case k0 => k_is)
    (case a1 => k_is)
    (case l1 => k_is)
    (case c1 => k_is)
    (case k1 => k_is)
    (case a2 => k_is)
    (case l2 => k_is)
    (case c2 => k_is)
    (case k2 => k_is)
    (case a3 => k_is)
    (case l3 => k_is)
    (case c3 => k_is)
    (case k3 => k_is)
    (case a4 => k_is)
    (case l4 => k_is)
    (case c4 => k_is)
    (case k4 => k_is)
    (case a5 => k_is)
    (case l5 => k_is)
    (case c5 => k_is)
    (case k5 => k_is)
    (case a6 => k_is)
    (case l6 => k_is)
    (case c6 => k_is)
    (case k6 => k_is)
    (case a7 => k_is)
    (case l7 => k_is)
    (case c7 => k_is)
    (case k7 => k_is)
    (case a8 => k_is)
    (case l8 => k_is)
    (case c8 => k_is)
    (case k8 => k_is)
    (case a9 => k_is)
    (case l9 => k_is)
    (case c9 => k_is)
    (case k9 => k_is)
    (case a10 => k_is)
    (case l10 => k_is)
    (case c10 => k_is)
    (case k10 => k_is)
    (case a11 => k_is)
    (case l11 => k_is)
    (case c11 => k_is)
    (case k11 => k_is)
    (case a12 => k_is)
    (case l12 => k_is)
    (case c12 => k_is)
    (case k12 => k_is)
    (case a13 => k_is)
    (case l13 => k_is)
    (case c13 => k_is)
    (case k13 => k_is)
    (case a14 => k_is)
    (case l14 => k_is)
    (case c14 => k_is)
    (case k14 => k_is)
    (case a15 => k_is)
    (case l15 => k_is)
    (case c15 => k_is)
    (case k15 => k_is)
    (case a16 => k_is)
    (case l16 => k_is)
    (case c16 => k_is)
    (case k16 => k_is)
    (case a17 => k_is)
    (case l17 => k_is)
    (case c17 => k_is)
    (case k17 => k_is)
    (case a18 => k_is)
    (case l18 => k_is)
    (case c18 => k_is)
    (case k18 => k_is)
    (case a19 => k_is)
    (case l19 => k_is)
    (case c19 => k_is)
    (case k19 => k_is)
    (case z_abs => k_is)
    (case z_all => k_is)
    (case z_bool => k_is)
    (case z_int => k_is)
    (case z_isinstance => k_is)
    (case z_len => k_is)
    (case z_list => k_is)
    (case z_max => k_is)
    (case z_range => k_is)
    (case z_repr => k_is)
    (case z_sum => k_is)
    (case z_tuple => k_is)
    (case z_gcd => k_is)
    (case z_isqrt => k_is)
