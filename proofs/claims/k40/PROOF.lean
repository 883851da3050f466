import PyProof.Rows.All
import Wide.All
import OpenK.AllK
import Wide.FinOn
import PyProof.EqAt
import PyProof.EqKinds
import PyProof.TupleCall
import HandS.ForMost
import HandS.IsInst
import HandS.Conv
import HandS.Gcd
import HandS.Wide
import HandS.WideBits
import HandS.Style
import HandS.ForExc
import Flt.RightSqrt
import HandS.OwnEq
import HandS.TupAny
import HandS.Exc
import HandS.ExcInit
import HandS.ExcField
import HandS.ExcValue
import HandS.WordsExc
import HandS.ExcIs
import KE.KExcIs
import HandS.Defaults
import PySem.Challenge.RW_slitsheets_k40_paths_and_their_crossings
set_option Elab.async false
set_option linter.all false
set_option maxRecDepth 100000
set_option maxHeartbeats 4000000
set_option exponentiation.threshold 4000
/-! Rules and words that all laws share. -/
namespace Kx
open PySem PySem.Spec PyProof.Rows L2

abbrev SV := L2.St
/-! ### a def of the text under its name -/
structure DefAt (P : Program) (w : World) (K : PySem.W.Frag) (mg : Str → Option Value) (base : Heap) (k : Nat) (x : Str) (f : Addr) (fd : FuncData) (ps : List Str) (sp : Sp) : Prop where
  F : FnOk P w K mg base CX0 k f fd ps sp
  m : mg x = some (.ref f)
  kp : PySem.W.keepIn K (.ref f) = true
  b : Binds K fd ps []
def tD (sp : Sp) (t : TA) : TE := fun σ H Q => t σ H fun vs H1 => sp vs H1 Q E0
def tDK (sp : Sp) (gV : List V → List V) (t : TA) : TE := fun σ H Q => t σ H fun zs H1 => sp (gV zs) H1 Q E0
section
variable {X : Cx} {k j : Nat} {f : Addr} {fd : FuncData} {ps ks : List Str} {sp : Sp} {x : Str} {p pos : Pos} {e : Expr} {es : List Expr} {t tk : TA} {kws : List Keyword}
theorem pe_d (D : DefAt X.prog X.w X.K X.mg X.base k x f fd ps sp) (hr : Room j X.A) (ha : PA X (e :: es) t) (hkj : k ≤ j := by decide) (hg : Gl X x := by rfl) (hdb : (x == ("__debug__" : Str)) = false := by decide)
    (he : starEach (e :: es) X.env = (false, eval e X.env) :: starEach es X.env := by rfl) (hpl : (backTo pos (starEach es X.env)).any (·.1) = false := by rfl) : PE X (.Call (.Name x p) (e :: es) [] pos) (tD sp t) := by
  refine ⟨fun pins s σ H Q I h => ?_⟩
  refine (pe_call (dvs := []) D.F (hr.mono hkj) hg D.m D.kp D.b .nil pass0 ha hdb he hpl).run pins s σ H Q I ?_
  have e : (tCall sp [] E0 t) = tD sp t := by funext a b c; unfold tCall tD; simp only [List.append_nil]
  rw [e]
  exact h
/-- how a call by keywords alone binds -/
structure KB0 (K : PySem.W.Frag) (fd : FuncData) (ps ks : List Str) (g : List Value → List Value) (gV : List V → List V) : Prop where
  to : ∀ (s : Shared) (ws : List Value), ws.length = ks.length → BindsTo s fd ⟨[], ks.zip ws⟩ (ps.zip (g ws))
  rel : ∀ {zs : List V} {ws : List Value}, zs.length = ks.length → Vals zs ws → Vals (gV zs) (g ws)
  ln : ∀ zs : List V, (gV zs).length = ps.length → zs.length = ks.length
/-- f(k = v, ..): keywords alone -/
theorem pe_dk {g : List Value → List Value} {gV : List V → List V} (D : DefAt X.prog X.w X.K X.mg X.base k x f fd ps sp) (hr : Room j X.A) (hb : KB0 X.K fd ps ks g gV) (hkw : PK X kws tk) (hkj : k ≤ j := by decide) (hg : Gl X x := by rfl)
    (hall : (backToKw pos (keywordEach kws X.env)).all (·.1.isSome) = true := by rfl) (hks : (backToKw pos (keywordEach kws X.env)).filterMap (·.1) = ks := by rfl) (hdb : (x == ("__debug__" : Str)) = false := by decide)
    (hpl : ((backTo pos (starEach [] X.env)).any (·.1) || (backToKw pos (keywordEach kws X.env)).any (·.1.isNone)) = false := by rfl) :
    PE X (.Call (.Name x p) [] kws pos) (tDK sp gV tk) := by
  refine ⟨fun pins s σ H Q I h => ?_⟩
  refine wpAny_Call_Name_kw (ld_glob I hg D.m ?_ hdb)
  refine PySem.W.callWith_KW0 (h₀ := X.base) I.ok.mod.kin D.kp hall ?_ hpl
  refine thn (hkw.run pos pins s σ H _ I h) fun ws s2 ⟨zs, H2, I2, rz, q2⟩ => ⟨I2.kIn, ?_⟩
  rw [hks]
  have lz := hb.ln zs (D.F.len _ _ _ _ q2)
  have b := hb.to s2 ws (rz.length.symm.trans lz)
  refine wpAny_call (codeAny_mono (D.F.run X.A X.stack s2 H2 ⟨[], ks.zip ws⟩ (g ws) (gV zs) Q E0 (hr.mono hkj) I2.env0 b (hb.rel lz rz) q2) fun r s' hq => ?_)
  cases r with
  | error e => exact (hq : False).elim
  | ok fl =>
    cases fl with
    | ret u => exact I2.after hq
    | next => exact False.elim hq
    | brk => exact False.elim hq
    | cont => exact False.elim hq
theorem kb_mk {K : PySem.W.Frag} {x qual : Str} {st : Stmt} {f : Addr} {fd : FuncData} {ps ks : List Str} {g : List Value → List Value} {gV : List V → List V} (F : Fun K x qual st f fd)
    (h : ∀ (kV doc pm : Value) (an : Option Addr) (cdv ct : Value) (ws : List Value), ws.length = ks.length → bindArgs (PySem.W.fnOf x qual (defArgs st) (defBody st) (defScope st) .none kV doc pm an cdv ct) ⟨[], ks.zip ws⟩ = pure (ps.zip (g ws)))
    (hr : ∀ {zs : List V} {ws : List Value}, zs.length = ks.length → Vals zs ws → Vals (gV zs) (g ws)) (hl : ∀ zs : List V, (gV zs).length = ps.length → zs.length = ks.length) : KB0 K fd ps ks g gV := by
  obtain ⟨oc, od, kV, doc, pm, an, cdv, ct, osl, rfl, lk, hcd⟩ := F.ex
  exact ⟨fun s ws hw => .of_eq (h kV doc pm an cdv ct ws hw), hr, hl⟩
end

/-! ### numbers -/
/-- a divisor but 0 of at most 9000 bits -/
def DivOk (j : Int) : Prop := j ≠ 0 ∧ j.natAbs.log2 < 9000
def PowOk (i j : Int) : Prop := 0 ≤ j ∧ (Builtin.Int.intBits i : Int) * j ≤ 2 ^ 27
section
variable {X : Cx}
theorem op_fdivX : OpR X (binaryOp .FloorDiv) (rI (fun _ j => DivOk j) fun i j => .int (i.fdiv j)) := opI fun i j _ _ _ _ _ hc q =>
  floordiv_int hc.1 q (.inl (PyProof.noPylong_of_log2 hc.2))
theorem op_mulU : OpR X (binaryOp .Mult) (rI IntMulOk fun i j => .int (i * j)) := opI fun _ _ _ _ _ _ _ hc q => mul_int q hc
/-- ** of numbers whose power has at most 2 ^ 27 bits -/
theorem op_powX : OpR X (binaryOp .Pow) (rI PowOk fun i j => .int (i ^ j.toNat)) := opI fun _ _ _ _ _ _ _ hc q => pow_int hc.1 hc.2 q
/-- math.isqrt -/
def rt (n : Int) : Int := ((Float64.isqrt n.toNat : Nat) : Int)
theorem cr_isqrt : CallR X (.builtin "math.isqrt") (fun vs H Q => ∃ a : Int, vs = [.int a] ∧ 0 ≤ a ∧ a.toNat.log2 < 13000 ∧ Q (.int (rt a)) H) := by
  intro pins s σ H vs us Q I r h
  obtain ⟨a, rfl, h0, h1, q⟩ := h
  obtain ⟨u, rfl, t, rfl⟩ := vals1 r
  exact call_function_meets PySem.W.MGF.kind_isqrt PySem.W.MGF.plain_isqrt PySem.W.MGF.entry_isqrt (PySem.W.MGF.args_isqrt _) (PySem.W.mg_run_isqrt a t (by omega) (by omega) (by omega)).meets ⟨.int _, H, I.tok _, ⟨_, rfl⟩, q⟩
theorem cr_int : CallR X (.type "int") (fun xs H Q => ∃ i, xs = [.int i] ∧ Q (.int i) H) := fun pins s σ H xs us Q I r h => call_int1 pins s σ H xs us Q I r (.inl h)
/-- repr of a number, of True, False, None -/
def flatText : V → Option Str
  | .int i => if i.natAbs.log2 < 1920 then some (toString i) else none
  | .bl b => some (if b then "True" else "False")
  | .non => some "None"
  | _ => none
theorem cr_repr : CallR X (.builtin "repr") (fun vs H Q => ∃ (x : V) (z : Str), vs = [x] ∧ flatText x = some z ∧ Q (.str z) H) := by
  intro pins s σ H vs us Q I r h
  obtain ⟨x, z, rfl, hz, q⟩ := h
  obtain ⟨u, rfl, rx⟩ := vals1 r
  cases x with
  | int i =>
    obtain ⟨t, rfl⟩ := rx
    have hz2 : (if i.natAbs.log2 < 1920 then some (toString i : Str) else Option.none) = some z := hz
    by_cases hl : i.natAbs.log2 < 1920
    · rw [if_pos hl] at hz2
      have hz3 := Option.some.inj hz2
      subst hz3
      exact PySem.P.repr_of_int hl ⟨.str _, H, I.tok _, ⟨_, rfl⟩, q⟩
    · rw [if_neg hl] at hz2
      cases hz2
  | bl b =>
    cases rx
    cases hz
    exact PySem.P.repr_of_bool ⟨.str _, H, I.tok _, ⟨_, rfl⟩, q⟩
  | non =>
    cases rx
    cases hz
    exact PySem.P.repr_of_none ⟨.str _, H, I.tok _, ⟨_, rfl⟩, q⟩
  | str _ => cases hz
  | byt _ => cases hz
  | flt _ => cases hz
  | ref _ => cases hz
  | ty _ => cases hz
end

/-! ### loops, opened by hand -/
section
variable {wi : TI} {g : TG} {tb : TS} {D : Ends} {σ : SV} {H : Hp} {c : TT} {tt : TT} {te : TE} {vs : List Nat}
def ForW (J : It) (g : TG) (tb : TS) (D : Ends) (σ : SV) (H1 : Hp) : Prop := ∃ W : Nat → Nat → SV → Hp → Prop, (∃ m, W 0 m σ H1) ∧ ∀ i m σ H, W i m σ H →
  (J.stop i H ∧ D.nx σ H) ∨ (J.go i H ∧ ∃ N : SV → Hp → Prop, (∀ σ' H', N σ' H' → ∃ m', m' < m ∧ W (i + 1) m' σ' H') ∧ ∀ x H', J.yld i H x H' → g x σ H' fun σ2 H2 => tb { D with nx := N, ct := N, bk := D.nx } σ2 H2)
theorem tFor_eq : tFor wi g tb = fun D σ H => wi σ H fun J H1 => ForW J g tb D σ H1 := rfl
theorem forW_range {n : Nat} {lo : Int} (Pv : Nat → SV → Hp → Prop) (h0 : Pv 0 σ H) (hs : ∀ i σ' H', i < n → Pv i σ' H' → g (.int (lo + i)) σ' H' fun σ2 H2 => tb { D with nx := Pv (i + 1), ct := Pv (i + 1), bk := D.nx } σ2 H2)
    (hd : ∀ σ' H', Pv n σ' H' → D.nx σ' H') : ForW (Itr lo n) g tb D σ H := for_range Pv h0 hs hd
theorem forW_list {K : PySem.W.Frag} {a : Addr} {xs : List V} (Pv : Nat → SV → Hp → Prop) (h0 : Pv 0 σ H) (hl : ∀ i σ H, i ≤ xs.length → Pv i σ H → SqL K H a xs)
    (hs : ∀ i x σ' H', xs[i]? = some x → Pv i σ' H' → g x σ' H' fun σ2 H2 => tb { D with nx := Pv (i + 1), ct := Pv (i + 1), bk := D.nx } σ2 H2) (hd : ∀ σ' H', Pv xs.length σ' H' → D.nx σ' H') : ForW (Itl K a) g tb D σ H := for_list Pv h0 hl hs hd
theorem forW_tup {K : PySem.W.Frag} {a : Addr} {xs : List V} (Pv : Nat → SV → Hp → Prop) (h0 : Pv 0 σ H) (hl : ∀ i σ H, i ≤ xs.length → Pv i σ H → SqT K H a xs)
    (hs : ∀ i x σ' H', xs[i]? = some x → Pv i σ' H' → g x σ' H' fun σ2 H2 => tb { D with nx := Pv (i + 1), ct := Pv (i + 1), bk := D.nx } σ2 H2) (hd : ∀ σ' H', Pv xs.length σ' H' → D.nx σ' H') : ForW (Itt K a) g tb D σ H := for_tup Pv h0 hl hs hd
def WStep (W : Nat → SV → Hp → Prop) (m : Nat) (tb : TS) (D : Ends) (σ : SV) (H1 : Hp) : Prop := ∃ N : SV → Hp → Prop, (∀ σ' H', N σ' H' → ∃ m', m' < m ∧ W m' σ' H') ∧ tb { D with nx := N, ct := N, bk := D.nx } σ H1
theorem whileI (Pv : SV → Hp → Prop) (μ : SV → Hp → Nat) (h0 : Pv σ H) (hs : ∀ σ' H', Pv σ' H' → c σ' H' fun b H1 => if b = true then WStep (fun m σ H => m = μ σ H ∧ Pv σ H) (μ σ' H') tb D σ' H1 else D.nx σ' H1) : tWhile c tb D σ H :=
  ⟨fun m σ H => m = μ σ H ∧ Pv σ H, ⟨_, rfl, h0⟩, by
    rintro m σ1 H1 ⟨rfl, p⟩
    exact hs σ1 H1 p⟩
theorem wstep {Pv : SV → Hp → Prop} {μ : SV → Hp → Nat} {m : Nat} {H1 : Hp} (h : tb { D with nx := fun σ' H' => Pv σ' H' ∧ μ σ' H' < m, ct := fun σ' H' => Pv σ' H' ∧ μ σ' H' < m, bk := D.nx } σ H1) : WStep (fun m σ H => m = μ σ H ∧ Pv σ H) m tb D σ H1 :=
  ⟨_, fun σ' H' z => ⟨_, z.2, rfl, z.1⟩, h⟩
def LcW (J : It) (g : TG) (tt : TT) (te : TE) (vs : List Nat) (D : Addr) (σ : SV) (H1 : Hp) (Q : VK) : Prop := ∃ W : Nat → Nat → Hp → Prop, (∃ m, W 0 m (upd H1 D (.lst []))) ∧ ∀ i m H, W i m H →
  (J.stop i H ∧ Q (.ref D) H) ∨ (J.go i H ∧ ∃ Ny : Hp → Prop, (∀ H', Ny H' → ∃ m', m' < m ∧ W (i + 1) m' H') ∧ ∀ x H', J.yld i H x H' → g x (wipe σ vs) H' fun σ2 H2 => wipe σ2 vs = wipe σ vs ∧ tt σ2 H2 fun b H3 =>
    if b = true then te σ2 H3 fun y H4 => ∃ acc, H4 D = some (.lst acc) ∧ acc.length < sizeLine ∧ Ny (upd H4 D (.lst (acc ++ [y]))) else Ny H3)
theorem tLc_eq : tLc wi g tt te vs = fun σ H Q => wi σ H fun J H1 => ∀ D, H1 D = none → LcW J g tt te vs D σ H1 Q := rfl
section
variable {Dd : Addr} {Q : VK}
theorem lcW_range {n : Nat} {lo : Int} (Pv : Nat → Hp → Prop) (h0 : Pv 0 (upd H Dd (.lst [])))
    (hs : ∀ i H, i < n → Pv i H → g (.int (lo + i)) (wipe σ vs) H fun σ2 H2 => wipe σ2 vs = wipe σ vs ∧ tt σ2 H2 fun b H3 =>
      if b = true then te σ2 H3 fun y H4 => ∃ acc, H4 Dd = some (.lst acc) ∧ acc.length < sizeLine ∧ Pv (i + 1) (upd H4 Dd (.lst (acc ++ [y]))) else Pv (i + 1) H3) (hd : ∀ H, Pv n H → Q (.ref Dd) H) : LcW (Itr lo n) g tt te vs Dd σ H Q := lc_range Pv h0 hs hd
theorem lcW_list {K : PySem.W.Frag} {a : Addr} {xs : List V} (Pv : Nat → Hp → Prop) (h0 : Pv 0 (upd H Dd (.lst []))) (hl : ∀ i H, i ≤ xs.length → Pv i H → SqL K H a xs)
    (hs : ∀ i x H, xs[i]? = some x → Pv i H → g x (wipe σ vs) H fun σ2 H2 => wipe σ2 vs = wipe σ vs ∧ tt σ2 H2 fun b H3 =>
      if b = true then te σ2 H3 fun y H4 => ∃ acc, H4 Dd = some (.lst acc) ∧ acc.length < sizeLine ∧ Pv (i + 1) (upd H4 Dd (.lst (acc ++ [y]))) else Pv (i + 1) H3) (hd : ∀ H, Pv xs.length H → Q (.ref Dd) H) : LcW (Itl K a) g tt te vs Dd σ H Q := lc_list Pv h0 hl hs hd
theorem lcW_tup {K : PySem.W.Frag} {a : Addr} {xs : List V} (Pv : Nat → Hp → Prop) (h0 : Pv 0 (upd H Dd (.lst []))) (hl : ∀ i H, i ≤ xs.length → Pv i H → SqT K H a xs)
    (hs : ∀ i x H, xs[i]? = some x → Pv i H → g x (wipe σ vs) H fun σ2 H2 => wipe σ2 vs = wipe σ vs ∧ tt σ2 H2 fun b H3 =>
      if b = true then te σ2 H3 fun y H4 => ∃ acc, H4 Dd = some (.lst acc) ∧ acc.length < sizeLine ∧ Pv (i + 1) (upd H4 Dd (.lst (acc ++ [y]))) else Pv (i + 1) H3) (hd : ∀ H, Pv xs.length H → Q (.ref Dd) H) : LcW (Itt K a) g tt te vs Dd σ H Q := lc_tup Pv h0 hl hs hd
end
end

/-! ### items of what is tracked -/
section
variable {X : Cx}
theorem ixL : IxR X (fun x y H Q => ∃ p xs i v, x = .ref p ∧ y = .int i ∧ H p = some (.lst xs) ∧ atI xs i = some v ∧ Q v H) := by
  intro value slice pins s σ H x y v u Q I rx ry h hs
  obtain ⟨p, xs, i, z, e1, e2, h1, h2, q⟩ := h
  exact ix_list value slice pins s σ H x y v u Q I rx ry ⟨p, xs, i, z, e1, e2, SqL.of h1, h2, q⟩ hs
theorem ixT : IxR X (fun x y H Q => ∃ p xs i v, x = .ref p ∧ y = .int i ∧ H p = some (.tup xs) ∧ atI xs i = some v ∧ Q v H) := by
  intro value slice pins s σ H x y v u Q I rx ry h hs
  obtain ⟨p, xs, i, z, e1, e2, h1, h2, q⟩ := h
  exact ix_tup value slice pins s σ H x y v u Q I rx ry ⟨p, xs, i, z, e1, e2, SqT.of h1, h2, q⟩ hs
end
/-- a, b, .. = a tracked tuple of n items -/
def gT (n : Nat) (t : TGs) : TG := fun v σ H Q => ∃ a xs, v = .ref a ∧ H a = some (.tup xs) ∧ xs.length = n ∧ t xs σ H Q
theorem pg_tupT {X : Cx} {es : List Expr} {k : Nat} {t : TGs} {pos : Pos} (n : Nat) (hc : X.calm = true) (h : PGs X es t) (hn : (assignEach es X.env).length = n := by rfl) (hst : (assignEach es X.env).findIdx? (·.1) = none := by rfl) : PG X (.Tuple es k pos) (gT n t) := by
  refine ⟨fun pins s σ H v u Q I r hw => ?_⟩
  obtain ⟨a, xs, e1, hq, hl, hw⟩ := hw
  exact (pg_tup hc h hn hst).run pins s σ H v u Q I r ⟨a, xs, e1, SqT.of hq, hl, hw⟩
/-- a, b, .. = a tracked list of n items -/
def gL (n : Nat) (t : TGs) : TG := fun v σ H Q => ∃ a xs, v = .ref a ∧ H a = some (.lst xs) ∧ xs.length = n ∧ t xs σ H Q
theorem pg_lstT {X : Cx} {es : List Expr} {k : Nat} {t : TGs} {pos : Pos} (n : Nat) (hc : X.calm = true) (h : PGs X es t) (hn : (assignEach es X.env).length = n := by rfl) (hst : (assignEach es X.env).findIdx? (·.1) = none := by rfl) : PG X (.Tuple es k pos) (gL n t) := by
  refine ⟨fun pins s σ H v u Q I r hw => ?_⟩
  obtain ⟨a, xs, e1, hq, hl, hw⟩ := hw
  exact (pg_lst hc h hn hst).run pins s σ H v u Q I r ⟨a, xs, e1, SqL.of hq, hl, hw⟩
theorem lenL {X : Cx} : CallR X (.builtin "len") (fun xs H Q => ∃ p ys, xs = [.ref p] ∧ H p = some (.lst ys) ∧ Q (.int ys.length) H) := by
  intro pins s σ H xs us Q I r h
  obtain ⟨p, ys, e, h1, q⟩ := h
  exact call_len_seq pins s σ H xs us Q I r ⟨p, ys, e, .inl (SqL.of h1), q⟩
theorem lenT {X : Cx} : CallR X (.builtin "len") (fun xs H Q => ∃ p ys, xs = [.ref p] ∧ H p = some (.tup ys) ∧ Q (.int ys.length) H) := by
  intro pins s σ H xs us Q I r h
  obtain ⟨p, ys, e, h1, q⟩ := h
  exact call_len_seq pins s σ H xs us Q I r ⟨p, ys, e, .inr (SqT.of h1), q⟩
theorem cxK {CX : CXT} {P : Program} {w : World} {K : PySem.W.Frag} {mg : Str → Option Value} {base : Heap} {N : List Str} {qual : Str} {sc : Scope} {f : Addr} {cd : Value} {A : Around} {outer : List Env} {s : Shared} {H : Hp} {E : XK} : (cxOf CX P w K mg base N qual sc f cd A outer s H E).K = K := rfl
theorem atI_0 {α : Type} {x : α} {l : List α} : atI (x :: l) 0 = some x := atI_nat (j := 0) rfl
theorem atI_1 {α : Type} {x y : α} {l : List α} : atI (x :: y :: l) 1 = some y := atI_nat (j := 1) rfl
theorem atI_2 {α : Type} {x y z : α} {l : List α} : atI (x :: y :: z :: l) 2 = some z := atI_nat (j := 2) rfl
theorem atI_3 {α : Type} {x y z u : α} {l : List α} : atI (x :: y :: z :: u :: l) 3 = some u := atI_nat (j := 3) rfl
theorem ixN_30 : ixN 3 0 = some 0 := by decide
theorem ixN_31 : ixN 3 1 = some 1 := by decide
theorem ixN_32 : ixN 3 2 = some 2 := by decide

/-! ### sizes -/
theorem cmw {i j : Int} (h1 : -(2 ^ 2500) < i) (h2 : i < 2 ^ 2500) (h3 : -(2 ^ 2500) < j) (h4 : j < 2 ^ 2500) : IntMulOk i j :=
  CMulW.ok (wide_mul (a := 2500) (b := 2500) (by omega) (by omega) (by decide) (by decide) (by decide))
theorem cmr {i j : Int} (h1 : -(2 ^ 64) < j) (h2 : j < 2 ^ 64) : IntMulOk i j := CMul.ok (.inr ⟨h1, h2⟩)
theorem cml {i j : Int} (h1 : -(2 ^ 64) < i) (h2 : i < 2 ^ 64) : IntMulOk i j := CMul.ok (.inl ⟨h1, h2⟩)
theorem cpow {i : Int} {j : Int} (h0 : 0 ≤ j) (h1 : j ≤ 1000) (h2 : -(2 ^ 2500) < i) (h3 : i < 2 ^ 2500) : PowOk i j := by
  have h := PyProof.Rows.intBits_le (show i.natAbs < 2 ^ 2500 by omega)
  refine ⟨h0, ?_⟩
  have h4 : (Builtin.Int.intBits i : Int) ≤ 2500 := by omega
  have h5 := Int.mul_le_mul h4 h1 h0 (by decide)
  exact Int.le_trans h5 (by decide)
theorem cdiv {j : Int} (h0 : j ≠ 0) (h1 : -(2 ^ 2500) < j) (h2 : j < 2 ^ 2500) : DivOk j :=
  ⟨h0, Nat.lt_of_lt_of_le (PySem.Flt.log2_lt_of (by decide) (show j.natAbs < 2 ^ 2500 by omega)) (by decide)⟩

theorem cut1 (xs : List V) : cutV xs none (some 1) = xs.take 1 := by
  unfold cutV
  cases xs with
  | nil => rfl
  | cons x l =>
    have e : HT.sIx (x :: l).length (x :: l).length (some 1) = 1 := by simp [HT.sIx]
    have e2 : HT.sIx (x :: l).length 0 (Option.none) = 0 := rfl
    rw [e, e2]
    rfl
/-! ### the draws -/
def Keep (g : Addr) (H H' : Hp) : Prop := ∀ b o, b ≠ g → H b = some o → H' b = some o
theorem Keep.refl (g : Addr) (H : Hp) : Keep g H H := fun _ _ _ h => h
theorem Keep.trans {g : Addr} {H H1 H2 : Hp} (a : Keep g H H1) (b : Keep g H1 H2) : Keep g H H2 := fun c o n h => b c o n (a c o n h)
theorem Keep.of {g : Addr} {H H' : Hp} (a : Same H H') : Keep g H H' := fun c o _ h => a c o h
theorem Same.upd {H : Hp} {a : Addr} {o : HO} (h : H a = none) : Same H (upd H a o) := fun b u e => by
  rw [upd_ne (ne_of_none e h)]
  exact e
theorem Same.upd2 {H H1 : Hp} {a : Addr} {o : HO} (s : Same H H1) (h : H a = none) : Same H (L2.upd H1 a o) := fun b u e => by
  rw [upd_ne (ne_of_none e h)]
  exact s b u e
def GenAt (H : Hp) (g : Addr) (k : Nat) : Prop := ∃ a b c : Int, H g = some (.lst [.int a, .int b, .int c]) ∧ 0 ≤ a ∧ a < 2 ^ 2000 ∧ 0 ≤ b ∧ b < 2 ^ 32 ∧ 0 ≤ c ∧ c ≤ k
theorem GenAt.mono {H : Hp} {g : Addr} {j k : Nat} (h : GenAt H g j) (l : j ≤ k) : GenAt H g k := by
  obtain ⟨a, b, c, e, h1, h2, h3, h4, h5, h6⟩ := h
  exact ⟨a, b, c, e, h1, h2, h3, h4, h5, by omega⟩
theorem GenAt.same {H H' : Hp} {g : Addr} {k : Nat} (h : GenAt H g k) (s : Same H H') : GenAt H' g k := by
  obtain ⟨a, b, c, e, r⟩ := h
  exact ⟨a, b, c, s _ _ e, r⟩
def spHash : Sp := fun vs H Q _ => ∃ a i : Int, vs = [.int a, .int i] ∧ 0 ≤ a ∧ a < 2 ^ 32 ∧ 0 ≤ i ∧ i < 2 ^ 60 ∧ ∀ h : Int, 0 ≤ h → h < 2147483647 → Q (.int h) H
def spRandom : Sp := fun vs H Q _ => ∃ (g : Addr) (n : Int) (k : Nat), vs = [.ref g, .int n] ∧ GenAt H g k ∧ k ≤ 2 ^ 40 ∧ 1 ≤ n ∧ n < 2 ^ 300 ∧ ∀ (r : Int) (H' : Hp), 0 ≤ r → r < n → GenAt H' g (k + 20) → Keep g H H' → Q (.int r) H'
def spCell (K : PySem.W.Frag) : Sp := fun vs H Q _ => ∃ (a : Addr) (ns : List Int) (i : Int), vs = [.ref a, .int i] ∧ SqL K H a (ns.map V.int) ∧ 0 ≤ i ∧ i < 100 ∧ ∀ (r : Int) (H' : Hp), Same H H' → Q (.int r) H'
def spGen (K : PySem.W.Frag) : Sp := fun vs H Q _ => ∃ (a : Addr) (ns : List Int) (i : Int), vs = [.ref a, .int i] ∧ SqL K H a (ns.map V.int) ∧ 0 ≤ i ∧ i < 100 ∧ ∀ (g : Addr) (H' : Hp), H g = none → Same H H' → GenAt H' g 100000 → Q (.ref g) H'
/-- a def of two ints that hands back an int reckoned by F -/
def gcdI (a b : Int) : Int := ((Nat.gcd a.natAbs b.natAbs : Nat) : Int)
def spCommon : Sp := fun vs H Q _ => ∃ a b : Int, vs = [.int a, .int b] ∧ Q (.int (gcdI a b)) H
def spRoot : Sp := fun vs H Q _ => ∃ n : Int, vs = [.int n] ∧ 0 ≤ n ∧ n < 2 ^ 2000 ∧ ∀ H', Same H H' → Q (.int (rt n)) H'

/-- the number in a slot, for a measure -/
def slotN (σ : SV) (i : Nat) : Nat := match σ[i]? with
  | some (some (.int v)) => v.toNat
  | _ => 0
theorem gcdI_step {x y : Int} (hx : 0 ≤ x) (hy : 0 < y) : gcdI y (x % y) = gcdI x y := by
  unfold gcdI
  have e : (x % y).natAbs = x.natAbs % y.natAbs := by
    have h1 := Int.emod_nonneg x (show y ≠ 0 by omega)
    have h2 : ((x.natAbs % y.natAbs : Nat) : Int) = x % y := by
      rw [Int.natCast_emod, Int.natAbs_of_nonneg hx, Int.natAbs_of_nonneg (by omega)]
    omega
  rw [e, Nat.gcd_comm, ← Nat.gcd_rec, Nat.gcd_comm]
theorem gcdI_zero {x : Int} (hx : 0 ≤ x) : gcdI x 0 = x := by
  unfold gcdI
  rw [show (0 : Int).natAbs = 0 from rfl, Nat.gcd_zero_right]
  omega
theorem gcdI_abs (a b : Int) : gcdI (if a < 0 then -a else a) (if b < 0 then -b else b) = gcdI a b := by
  unfold gcdI
  have h : ∀ z : Int, (if z < 0 then -z else z).natAbs = z.natAbs := fun z => by split <;> omega
  rw [h, h]
theorem rt_spec {n : Int} (h : 0 ≤ n) : 0 ≤ rt n ∧ rt n * rt n ≤ n ∧ n < (rt n + 1) * (rt n + 1) := by
  obtain ⟨m, rfl⟩ := Int.eq_ofNat_of_zero_le h
  have q := PySem.Float64.isqrt_spec m
  unfold rt
  rw [Int.toNat_natCast]
  refine ⟨Int.natCast_nonneg _, ?_, ?_⟩
  · exact_mod_cast q.1
  · exact_mod_cast q.2
theorem sq_mono {x y : Int} (h : 0 ≤ x) (h2 : x ≤ y) : x * x ≤ y * y := Int.mul_le_mul h2 h2 h (by omega)
theorem rt_unique {n r : Int} (h : 0 ≤ n) (h0 : 0 ≤ r) (h1 : r * r ≤ n) (h2 : n < (r + 1) * (r + 1)) : r = rt n := by
  obtain ⟨s0, s1, s2⟩ := rt_spec h
  have a : ¬ r + 1 ≤ rt n := fun z => by
    have q := sq_mono (by omega) z
    omega
  have b : ¬ rt n + 1 ≤ r := fun z => by
    have q := sq_mono (by omega) z
    omega
  omega
theorem lg {n : Int} (h : n < 2 ^ 3900) : n.toNat.log2 < 13000 := by
  by_cases h0 : n.toNat = 0
  · rw [h0]; decide
  · have h2 : n.toNat < 2 ^ 3900 := by omega
    have := (Nat.log2_lt h0).mpr h2
    omega
theorem rGcd_eq : rGcd = fun vs H Q => ∃ a b : Int, vs = [.int a, .int b] ∧ Q (.int (gcdI a b)) H := rfl
theorem scal_ii {a b : Int} : scal (.int a) (.int b) = true := rfl
theorem scal_bb {a b : Bool} : scal (.bl a) (.bl b) = true := rfl
theorem scal_ss {a b : Str} : scal (.str a) (.str b) = true := rfl
end Kx

set_option Elab.async false
set_option linter.all false
set_option maxRecDepth 100000
set_option maxHeartbeats 4000000
set_option exponentiation.threshold 4000
/-! Root numbers as plain functions. -/
namespace Kx
open PySem

def Sq (D : Int) : Prop := rt D * rt D = D
instance (D : Int) : Decidable (Sq D) := by unfold Sq; infer_instance
def sgn (x : Int) : Int := if x = 0 then 0 else if 0 < x then 1 else -1
def sideF (D x y : Int) : Int :=
  if x = 0 ∧ y = 0 then 0 else if 0 ≤ x ∧ 0 ≤ y then 1 else if x ≤ 0 ∧ y ≤ 0 then -1 else
  if x * x - D * y * y = 0 then 0 else if (decide (0 < x * x - D * y * y) = decide (0 < x)) then 1 else -1
def sideP (D x y : Int) : Int := if D * y * y < x * x then sgn x else sgn y
theorem sq_of {D x y : Int} (hD : 0 ≤ D) (hy : y ≠ 0) (h : x * x = D * y * y) : Sq D := by
  have hyn : 0 < y.natAbs := Int.natAbs_pos.mpr hy
  obtain ⟨m, rfl⟩ := Int.eq_ofNat_of_zero_le hD
  have hn : x.natAbs * x.natAbs = m * (y.natAbs * y.natAbs) := by
    have e := congrArg Int.natAbs h
    rw [Int.natAbs_mul, Int.natAbs_mul, Int.natAbs_mul, Int.natAbs_natCast, Nat.mul_assoc] at e
    exact e
  have hd : y.natAbs ∣ x.natAbs := by
    have h1 : y.natAbs ^ 2 ∣ x.natAbs ^ 2 := ⟨m, by rw [Nat.pow_two, Nat.pow_two, hn]; exact Nat.mul_comm _ _⟩
    exact (Nat.pow_dvd_pow_iff (by decide)).mp h1
  obtain ⟨k, hk⟩ := hd
  have hm : k * k = m := by
    rw [hk] at hn
    have e : y.natAbs * y.natAbs * (k * k) = y.natAbs * y.natAbs * m := by
      rw [Nat.mul_comm (y.natAbs * y.natAbs) m, ← hn]
      simp only [Nat.mul_assoc, Nat.mul_left_comm]
    exact Nat.eq_of_mul_eq_mul_left (Nat.mul_pos hyn hyn) e
  have e : ((k : Nat) : Int) = rt (m : Int) := by
    refine rt_unique (Int.natCast_nonneg _) (Int.natCast_nonneg _) ?_ ?_
    · rw [← hm]
      exact Int.le_of_eq (Int.natCast_mul k k).symm
    · rw [← hm]
      have : (((k * k : Nat)) : Int) = (k : Int) * (k : Int) := Int.natCast_mul k k
      rw [this]
      have h2 : ((k : Int) + 1) * ((k : Int) + 1) = (k : Int) * k + 2 * k + 1 := by grind
      omega
  unfold Sq
  rw [← e, ← hm]
  exact (Int.natCast_mul k k).symm
theorem dyy_nn {D y : Int} (hD : 0 ≤ D) : 0 ≤ D * y * y := by
  rw [Int.mul_assoc]
  exact Int.mul_nonneg hD (by
    rcases Int.le_total 0 y with h | h
    · exact Int.mul_nonneg h h
    · exact Int.mul_nonneg_of_nonpos_of_nonpos h h)
theorem dyy_pos {D y : Int} (hD : 0 < D) (hy : y ≠ 0) : 0 < D * y * y := by
  have h1 : 0 < y * y := by
    rcases Int.lt_or_gt_of_ne hy with h | h
    · exact Int.mul_pos_of_neg_of_neg h h
    · exact Int.mul_pos h h
  rw [Int.mul_assoc]
  exact Int.mul_pos hD h1
theorem xx_pos {x : Int} (hx : x ≠ 0) : 0 < x * x := by
  rcases Int.lt_or_gt_of_ne hx with h | h
  · exact Int.mul_pos_of_neg_of_neg h h
  · exact Int.mul_pos h h
theorem side_eq {D x y : Int} (hD : 0 < D) (h : y = 0 ∨ ¬ Sq D) : sideP D x y = sideF D x y := by
  have hne : y ≠ 0 → x * x ≠ D * y * y := fun hy e => by
    rcases h with h | h
    · exact hy h
    · exact h (sq_of (by omega) hy e)
  have f1 : x = 0 → x * x = 0 := fun e => by rw [e]; rfl
  have f2 : x ≠ 0 → 0 < x * x := xx_pos
  have f3 : y = 0 → D * y * y = 0 := fun e => by rw [e, Int.mul_zero]
  have f4 : y ≠ 0 → 0 < D * y * y := dyy_pos hD
  unfold sideP sideF sgn
  simp only [decide_eq_decide]
  generalize x * x = u at *
  generalize D * y * y = v at *
  repeat' split
  all_goals omega
/-- the floor of y times the root -/
def flM (D y : Int) : Int := if 0 ≤ y then rt (D * y * y) else -rt (D * y * y - 1) - 1
theorem floor_low {D y z : Int} (hD : 0 < D) (h : -flM D y ≤ z) : 0 ≤ sideF D z y := by
  unfold flM at h
  unfold sideF
  by_cases hy : 0 ≤ y
  · rw [if_pos hy] at h
    obtain ⟨s0, s1, s2⟩ := rt_spec (dyy_nn (y := y) (Int.le_of_lt hD))
    by_cases hz : 0 ≤ z
    · by_cases h0 : z = 0 ∧ y = 0
      · rw [if_pos h0]; decide
      · rw [if_neg h0, if_pos ⟨hz, hy⟩]; decide
    · have h1 : z * z ≤ D * y * y := by
        have := sq_mono (x := -z) (y := rt (D * y * y)) (by omega) (by omega)
        have e : -z * -z = z * z := by grind
        omega
      have hy0 : y ≠ 0 := fun e => by
        subst e
        have h2 : 0 < z * z := xx_pos (by omega)
        rw [Int.mul_zero] at h1
        omega
      rw [if_neg (by omega), if_neg (by omega), if_neg (by omega)]
      by_cases h4 : z * z - D * y * y = 0
      · rw [if_pos h4]; decide
      · rw [if_neg h4, if_pos (by rw [decide_eq_false (by omega), decide_eq_false (by omega)])]; decide
  · rw [if_neg hy] at h
    have hp := dyy_pos hD (show y ≠ 0 by omega)
    obtain ⟨s0, s1, s2⟩ := rt_spec (show 0 ≤ D * y * y - 1 by omega)
    have hz : 0 < z := by omega
    have h1 : D * y * y ≤ z * z := by
      have := sq_mono (x := rt (D * y * y - 1) + 1) (y := z) (by omega) (by omega)
      omega
    rw [if_neg (by omega), if_neg (by omega), if_neg (by omega)]
    by_cases h4 : z * z - D * y * y = 0
    · rw [if_pos h4]; decide
    · rw [if_neg h4, if_pos (by rw [decide_eq_true (by omega), decide_eq_true hz])]; decide
theorem floor_high {D y z : Int} (hD : 0 < D) (h : z ≤ -1 - flM D y) : sideF D z y < 0 := by
  unfold flM at h
  unfold sideF
  by_cases hy : 0 ≤ y
  · rw [if_pos hy] at h
    obtain ⟨s0, s1, s2⟩ := rt_spec (dyy_nn (y := y) (Int.le_of_lt hD))
    by_cases hy0 : y = 0
    · rw [if_neg (by omega), if_neg (by omega), if_pos (by omega)]; decide
    · have h1 : D * y * y < z * z := by
        have := sq_mono (x := rt (D * y * y) + 1) (y := -z) (by omega) (by omega)
        have e : -z * -z = z * z := by grind
        omega
      rw [if_neg (by omega), if_neg (by omega), if_neg (by omega), if_neg (by omega), if_neg (by rw [decide_eq_true (show 0 < z * z - D * y * y by omega), decide_eq_false (by omega)]; decide)]
      decide
  · rw [if_neg hy] at h
    have hp := dyy_pos hD (show y ≠ 0 by omega)
    obtain ⟨s0, s1, s2⟩ := rt_spec (show 0 ≤ D * y * y - 1 by omega)
    by_cases hz : z ≤ 0
    · rw [if_neg (by omega), if_neg (by omega), if_pos (by omega)]; decide
    · have h1 : z * z < D * y * y := by
        have := sq_mono (x := z) (y := rt (D * y * y - 1)) (by omega) (by omega)
        omega
      rw [if_neg (by omega), if_neg (by omega), if_neg (by omega), if_neg (by omega), if_neg (by rw [decide_eq_false (show ¬ 0 < z * z - D * y * y by omega), decide_eq_true (by omega)]; decide)]
      decide
/-! ### least terms -/
def lsg (x y b : Int) : Int := if b < 0 then 0 - gcdI (gcdI x y) b else gcdI (gcdI x y) b
def red (x y b : Int) : Int × Int × Int := (x.fdiv (lsg x y b), y.fdiv (lsg x y b), b.fdiv (lsg x y b))
def least (D x y b : Int) : Int × Int × Int := if rt D * rt D = D then red (x + y * rt D) 0 b else red x y b
theorem gcdI_nn (a b : Int) : 0 ≤ gcdI a b := Int.natCast_nonneg _
theorem gcdI_dvdl (a b : Int) : gcdI a b ∣ a := Int.gcd_dvd_left a b
theorem gcdI_dvdr (a b : Int) : gcdI a b ∣ b := Int.gcd_dvd_right a b
theorem gcdI_pos {a b : Int} (h : b ≠ 0) : 0 < gcdI a b := by
  unfold gcdI
  have := Nat.gcd_pos_of_pos_right a.natAbs (Int.natAbs_pos.mpr h)
  omega
theorem gcdI_le {a b : Int} (h : b ≠ 0) : gcdI a b ≤ b.natAbs := by
  unfold gcdI
  have := Nat.gcd_le_right a.natAbs (Int.natAbs_pos.mpr h)
  omega
theorem gcdI_mul (k a b : Int) : gcdI (k * a) (k * b) = k.natAbs * gcdI a b := by
  have h := Int.gcd_mul_left k a b
  unfold gcdI
  have h2 : ((k * a).natAbs.gcd (k * b).natAbs) = k.natAbs * (a.natAbs.gcd b.natAbs) := h
  rw [h2, Int.natCast_mul]
theorem lsg_ne {x y b : Int} (h : b ≠ 0) : lsg x y b ≠ 0 := by
  have := gcdI_pos (a := gcdI x y) h
  unfold lsg
  split <;> omega
theorem lsg_size {x y b : Int} (h : b ≠ 0) : (lsg x y b).natAbs ≤ b.natAbs := by
  have h1 := gcdI_le (a := gcdI x y) h
  have h2 := gcdI_nn (gcdI x y) b
  unfold lsg
  split <;> omega
theorem lsg_abs {x y b : Int} : ((lsg x y b).natAbs : Int) = gcdI (gcdI x y) b := by
  have h2 := gcdI_nn (gcdI x y) b
  unfold lsg
  split <;> omega
/-- the three numbers as multiples -/
theorem red_mul {x y b : Int} (h : b ≠ 0) : x = lsg x y b * (red x y b).1 ∧ y = lsg x y b * (red x y b).2.1 ∧ b = lsg x y b * (red x y b).2.2 := by
  have hs := lsg_ne (x := x) (y := y) h
  have hd : ∀ z : Int, gcdI (gcdI x y) b ∣ z → z = lsg x y b * (z.fdiv (lsg x y b)) := fun z hz => by
    have h1 : lsg x y b ∣ z := by
      unfold lsg
      split
      · rw [Int.zero_sub]; exact Int.neg_dvd.mpr hz
      · exact hz
    obtain ⟨q, e⟩ := h1
    have e2 : z.fdiv (lsg x y b) = q := by
      have := Int.mul_fdiv_cancel_left (a := lsg x y b) q hs
      rw [← e] at this
      exact this
    rw [e2]; exact e
  exact ⟨hd x (Int.dvd_trans (gcdI_dvdl _ _) (gcdI_dvdl _ _)), hd y (Int.dvd_trans (gcdI_dvdl _ _) (gcdI_dvdr _ _)), hd b (gcdI_dvdr _ _)⟩
theorem gcd3_mul (k a b c : Int) : gcdI (gcdI (k * a) (k * b)) (k * c) = k.natAbs * gcdI (gcdI a b) c := by
  rw [gcdI_mul]
  have : gcdI ((k.natAbs : Int) * gcdI a b) (k * c) = gcdI (k * gcdI a b) (k * c) := by
    unfold gcdI
    rw [Int.natAbs_mul, Int.natAbs_mul k, Int.natAbs_natCast, Int.natAbs_mul k]
  rw [this, gcdI_mul]
theorem red_gcd {x y b : Int} (h : b ≠ 0) : gcdI (gcdI (red x y b).1 (red x y b).2.1) (red x y b).2.2 = 1 := by
  obtain ⟨e1, e2, e3⟩ := red_mul (x := x) (y := y) h
  have hp := gcdI_pos (a := gcdI x y) h
  have hg : gcdI (gcdI x y) b = (lsg x y b).natAbs * gcdI (gcdI (red x y b).1 (red x y b).2.1) (red x y b).2.2 := by
    rw [← gcd3_mul, ← e1, ← e2, ← e3]
  rw [lsg_abs] at hg
  have h2 : gcdI (gcdI x y) b * 1 = gcdI (gcdI x y) b * gcdI (gcdI (red x y b).1 (red x y b).2.1) (red x y b).2.2 := by
    rw [Int.mul_one]; exact hg
  exact (Int.eq_of_mul_eq_mul_left (by omega) h2).symm
theorem red_below {x y b : Int} (h : b ≠ 0) : 1 ≤ (red x y b).2.2 := by
  obtain ⟨_, _, e3⟩ := red_mul (x := x) (y := y) h
  have hs := lsg_ne (x := x) (y := y) h
  have hp := gcdI_pos (a := gcdI x y) h
  generalize (red x y b).2.2 = q at *
  by_cases hb : b < 0
  · have hl : lsg x y b < 0 := by unfold lsg; rw [if_pos hb]; omega
    by_cases hq : 1 ≤ q
    · exact hq
    · have := Int.mul_nonneg_of_nonpos_of_nonpos (Int.le_of_lt hl) (show q ≤ 0 by omega)
      omega
  · have hl : 0 < lsg x y b := by unfold lsg; rw [if_neg hb]; omega
    by_cases hq : 1 ≤ q
    · exact hq
    · have := Int.mul_nonpos_of_nonneg_of_nonpos (Int.le_of_lt hl) (show q ≤ 0 by omega)
      omega
theorem fdiv_size {z s q : Int} (hs : s ≠ 0) (e : z = s * q) : q.natAbs ≤ z.natAbs := by
  rw [e, Int.natAbs_mul]
  exact Nat.le_mul_of_pos_left _ (Int.natAbs_pos.mpr hs)
theorem red_size {x y b : Int} (h : b ≠ 0) : (red x y b).1.natAbs ≤ x.natAbs ∧ (red x y b).2.1.natAbs ≤ y.natAbs ∧ (red x y b).2.2.natAbs ≤ b.natAbs := by
  obtain ⟨e1, e2, e3⟩ := red_mul (x := x) (y := y) h
  have hs := lsg_ne (x := x) (y := y) h
  exact ⟨fdiv_size hs e1, fdiv_size hs e2, fdiv_size hs e3⟩
/-- what a triple needs to be the one: unique -/
theorem red_unique {x y b X Y B s : Int} (hs : s ≠ 0) (hB : 1 ≤ B) (hg : gcdI (gcdI X Y) B = 1) (e1 : x = s * X) (e2 : y = s * Y) (e3 : b = s * B) : red x y b = (X, Y, B) := by
  have hl : lsg x y b = s := by
    have hgc : gcdI (gcdI x y) b = s.natAbs := by rw [e1, e2, e3, gcd3_mul, hg, Int.mul_one]
    unfold lsg
    rw [hgc]
    by_cases h : s < 0
    · have : b < 0 := by rw [e3]; exact Int.mul_neg_of_neg_of_pos h (by omega)
      rw [if_pos this]; omega
    · have : ¬ b < 0 := by
        have := Int.mul_nonneg (show 0 ≤ s by omega) (show 0 ≤ B by omega)
        rw [e3]; omega
      rw [if_neg this]; omega
  unfold red
  rw [hl, e1, e2, e3, Int.mul_fdiv_cancel_left _ hs, Int.mul_fdiv_cancel_left _ hs, Int.mul_fdiv_cancel_left _ hs]
theorem red_scale {x y b k : Int} (hk : k ≠ 0) (hb : b ≠ 0) : red (k * x) (k * y) (k * b) = red x y b := by
  obtain ⟨e1, e2, e3⟩ := red_mul (x := x) (y := y) hb
  refine red_unique (s := k * lsg x y b) (Int.mul_ne_zero hk (lsg_ne hb)) (red_below hb) (red_gcd hb) ?_ ?_ ?_
  · rw [Int.mul_assoc]; exact congrArg (k * ·) e1
  · rw [Int.mul_assoc]; exact congrArg (k * ·) e2
  · rw [Int.mul_assoc]; exact congrArg (k * ·) e3
theorem least_scale {D x y b k : Int} (hk : k ≠ 0) (hb : b ≠ 0) : least D (k * x) (k * y) (k * b) = least D x y b := by
  unfold least
  split
  · rw [show k * x + k * y * rt D = k * (x + y * rt D) by grind]
    have := red_scale (x := x + y * rt D) (y := 0) hk hb
    rwa [Int.mul_zero] at this
  · exact red_scale hk hb
/-- a triple in least terms -/
def Good (D : Int) (t : Int × Int × Int) : Prop := 1 ≤ t.2.2 ∧ gcdI (gcdI t.1 t.2.1) t.2.2 = 1 ∧ (t.2.1 = 0 ∨ ¬ Sq D)
theorem least_good {D x y b : Int} (hb : b ≠ 0) : Good D (least D x y b) := by
  unfold least
  by_cases h : rt D * rt D = D
  · rw [if_pos h]
    refine ⟨red_below hb, red_gcd hb, .inl ?_⟩
    unfold red
    exact Int.zero_fdiv (lsg (x + y * rt D) 0 b)
  · rw [if_neg h]
    exact ⟨red_below hb, red_gcd hb, .inr h⟩
theorem red_self {X Y B : Int} (hB : 1 ≤ B) (hg : gcdI (gcdI X Y) B = 1) : red X Y B = (X, Y, B) :=
  red_unique (s := 1) (by decide) hB hg (Int.one_mul _).symm (Int.one_mul _).symm (Int.one_mul _).symm
theorem least_self {D : Int} {t : Int × Int × Int} (h : Good D t) : least D t.1 t.2.1 t.2.2 = t := by
  obtain ⟨h1, h2, h3⟩ := h
  unfold least
  split
  · rename_i hs
    rcases h3 with h3 | h3
    · rw [h3] at h2 ⊢
      rw [Int.zero_mul, Int.add_zero, red_self h1 h2]
      exact Prod.ext rfl (Prod.ext h3.symm rfl)
    · exact absurd hs h3
  · rw [red_self h1 h2]
end Kx
namespace Kx
open PySem PySem.Spec PyProof.Rows L2
/-! ### kinds of values -/
def tyS (H : Hp) : V → Option String
  | .non => some "NoneType"
  | .bl _ => some "bool"
  | .int _ => some "int"
  | .str _ => some "str"
  | .ref a => match H a with
    | some (.lst _) => some "list"
    | some (.tup _) => some "tuple"
    | some (.dK _) => some "dict"
    | _ => none
  | _ => none
def isIntV : V → Bool
  | .int _ => true
  | _ => false
theorem tyS_of {K : PySem.W.Frag} {H : Hp} {x : V} {t : String} (h : tyS H x = some t) : TyX K H x (.type t) ∧ t ∈ ["NoneType", "bool", "int", "str", "list", "tuple", "dict"] ∧ (isIntV x = (t == "int")) := by
  cases x with
  | non => cases h; exact ⟨.base .non, by decide, (show false = ("NoneType" == "int") by decide)⟩
  | bl b => cases h; exact ⟨.base (.bl b), by decide, (show false = ("bool" == "int") by decide)⟩
  | int i => cases h; exact ⟨.base (.int i), by decide, (show true = ("int" == "int") by decide)⟩
  | str z => cases h; exact ⟨.base (.str z), by decide, (show false = ("str" == "int") by decide)⟩
  | byt _ => cases h
  | flt _ => cases h
  | ty _ => cases h
  | ref a =>
    have h2 : (match H a with | some (.lst _) => some "list" | some (.tup _) => some "tuple" | some (.dK _) => some "dict" | _ => none) = some t := h
    cases e : H a with
    | none => rw [e] at h2; cases h2
    | some o =>
      rw [e] at h2
      cases o with
      | lst xs => cases h2; exact ⟨.base (.lst e), by decide, (show false = ("list" == "int") by decide)⟩
      | tup xs => cases h2; exact ⟨.base (.tup e), by decide, (show false = ("tuple" == "int") by decide)⟩
      | dK kvs => cases h2; exact ⟨.base (.dK e), by decide, (show false = ("dict" == "int") by decide)⟩
      | _ => cases h2
theorem tyS_same {H H' : Hp} {x : V} {t : String} (s : Same H H') (h : tyS H x = some t) : tyS H' x = some t := by
  cases x with
  | ref a =>
    have h2 : (match H a with | some (.lst _) => some "list" | some (.tup _) => some "tuple" | some (.dK _) => some "dict" | _ => none) = some t := h
    show (match H' a with | some (.lst _) => some "list" | some (.tup _) => some "tuple" | some (.dK _) => some "dict" | _ => none) = some t
    cases e : H a with
    | none => rw [e] at h2; cases h2
    | some o => rw [s a o e]; rw [e] at h2; exact h2
  | _ => exact h
def OkItem (H : Hp) (x : V) : Prop := ∃ t, tyS H x = some t
theorem OkItem.same {H H' : Hp} {x : V} (h : OkItem H x) (s : Same H H') : OkItem H' x := let ⟨t, e⟩ := h; ⟨t, tyS_same s e⟩
/-- a value that the judging defs may be asked for -/
def OkV (H : Hp) (x : V) : Prop := OkItem H x ∧ ∀ a xs, x = .ref a → H a = some (.tup xs) → ∀ y ∈ xs, OkItem H y
def wholesB (H : Hp) (m : Int) : V → Bool
  | .ref a => match H a with
    | some (.tup xs) => decide ((xs.length : Int) = m) && xs.all isIntV
    | _ => false
  | _ => false
def spWhole : Sp := fun vs H Q _ => ∃ x, vs = [x] ∧ OkItem H x ∧ Q (.bl (isIntV x)) H
def spWholes : Sp := fun vs H Q _ => ∃ (x : V) (m : Int), vs = [x, .int m] ∧ m ≤ 1000 ∧ OkV H x ∧ ∀ H', Same H H' → Q (.bl (wholesB H m x)) H'
def measB : V → Bool
  | .int i => decide (5 ≤ i) && decide (i % 4 < 2)
  | _ => false
def spIsMeasure : Sp := fun vs H Q _ => ∃ x, vs = [x] ∧ OkItem H x ∧ Q (.bl (measB x)) H
def Meas (D : Int) : Prop := 5 ≤ D ∧ D % 4 < 2
/-- where the measure is one -/
def spCheckMeasure0 : Sp := fun vs H Q _ => ∃ D : Int, vs = [.int D] ∧ Meas D ∧ Q .non H
def spHasRoot : Sp := fun vs H Q _ => ∃ D : Int, vs = [.int D] ∧ 0 ≤ D ∧ D < 2 ^ 2000 ∧ Q (.bl (decide (Sq D))) H
def rootB (D : Int) (H : Hp) (x : V) : Bool := wholesB H 3 x && (match x with
  | .ref a => match H a with
    | some (.tup [.int x, .int y, .int b]) => decide (1 ≤ b) && (decide (gcdI (gcdI x y) b ≤ 1) && (decide (y = 0) || !decide (Sq D)))
    | _ => false
  | _ => false)
def spIsRootOf : Sp := fun vs H Q _ => ∃ (D : Int) (x : V), vs = [.int D, x] ∧ 0 ≤ D ∧ D < 2 ^ 2000 ∧ OkV H x ∧ ∀ H', Same H H' → Q (.bl (rootB D H x)) H'
def rootV (t : Int × Int × Int) : List V := [.int t.1, .int t.2.1, .int t.2.2]
/-- a root number stands at a -/
def RootAt (D : Int) (H : Hp) (a : Addr) (t : Int × Int × Int) : Prop := H a = some (.tup (rootV t)) ∧ Good D t
theorem RootAt.same {D : Int} {H H' : Hp} {a : Addr} {t : Int × Int × Int} (h : RootAt D H a t) (s : Same H H') : RootAt D H' a t := ⟨s _ _ h.1, h.2⟩
theorem RootAt.okV {D : Int} {H : Hp} {a : Addr} {t : Int × Int × Int} (h : RootAt D H a t) : OkV H (.ref a) := by
  refine ⟨⟨"tuple", ?_⟩, fun b xs e1 e2 y hy => ?_⟩
  · show (match H a with | some (.lst _) => some "list" | some (.tup _) => some "tuple" | some (.dK _) => some "dict" | _ => none) = some "tuple"
    rw [h.1]
  · cases e1
    rw [h.1] at e2
    cases e2
    simp only [rootV, List.mem_cons, List.not_mem_nil, or_false] at hy
    rcases hy with rfl | rfl | rfl <;> exact ⟨"int", rfl⟩
theorem RootAt.isRoot {D : Int} {H : Hp} {a : Addr} {t : Int × Int × Int} (h : RootAt D H a t) : rootB D H (.ref a) = true := by
  obtain ⟨h1, h2, h3, h4⟩ := h
  unfold rootB wholesB
  simp only [h1, rootV, List.length_cons, List.length_nil, List.all_cons, List.all_nil, isIntV]
  rw [decide_eq_true h2, decide_eq_true (show gcdI (gcdI t.1 t.2.1) t.2.2 ≤ 1 by omega)]
  rcases h4 with h4 | h4
  · rw [decide_eq_true h4]; rfl
  · rw [decide_eq_false h4]; simp
/-- where every item is a root number -/
def spCheck0 : Sp := fun vs H Q _ => ∃ (D : Int) (a : Addr) (rs : List Addr), vs = [.int D, .ref a] ∧ Meas D ∧ D < 2 ^ 2000 ∧ H a = some (.tup (rs.map V.ref)) ∧ (∀ r ∈ rs, ∃ t, RootAt D H r t) ∧ ∀ H', Same H H' → Q .non H'
def spSgn : Sp := fun vs H Q _ => ∃ x : Int, vs = [.int x] ∧ Q (.int (sgn x)) H
def spFlM : Sp := fun vs H Q _ => ∃ D y : Int, vs = [.int D, .int y] ∧ 0 < D ∧ D < 2 ^ 1000 ∧ -(2 ^ 1000) < y ∧ y < 2 ^ 1000 ∧ Q (.int (flM D y)) H
/-- no part is too large -/
def Small (t : Int × Int × Int) : Prop := t.1.natAbs < 2 ^ 900 ∧ t.2.1.natAbs < 2 ^ 900 ∧ t.2.2.natAbs < 2 ^ 900
def spRootSide : Sp := fun vs H Q _ => ∃ (D : Int) (a : Addr) (t : Int × Int × Int), vs = [.int D, .ref a] ∧ Meas D ∧ D < 2 ^ 500 ∧ RootAt D H a t ∧ Small t ∧ ∀ H', Same H H' → Q (.int (sideP D t.1 t.2.1)) H'
def spRootFloor : Sp := fun vs H Q _ => ∃ (D : Int) (a : Addr) (t : Int × Int × Int), vs = [.int D, .ref a] ∧ Meas D ∧ D < 2 ^ 500 ∧ RootAt D H a t ∧ Small t ∧ ∀ H', Same H H' → Q (.int ((t.1 + flM D t.2.1).fdiv t.2.2)) H'
/-! ### the law's own -/
def spMeasure : Sp := fun vs H Q _ => ∃ (g : Addr) (n : Int) (k : Nat), vs = [.ref g, .int n] ∧ GenAt H g k ∧ k ≤ 2 ^ 39 ∧ 1 ≤ n ∧ n ≤ 40 ∧ ∀ (D : Int) (H' : Hp), Meas D → D < 2 ^ 200 → GenAt H' g (k + 100) → Keep g H H' → Q (.int D) H'
def spLeast : Sp := fun vs H Q _ => ∃ D x y b : Int, vs = [.int D, .int x, .int y, .int b] ∧ 0 ≤ D ∧ D < 2 ^ 1000 ∧ x.natAbs < 2 ^ 2000 ∧ y.natAbs < 2 ^ 2000 ∧ b.natAbs < 2 ^ 2000 ∧ b ≠ 0 ∧ ∀ (p : Addr) (H' : Hp), H p = none → Same H H' → H' p = some (.tup (rootV (least D x y b))) → Q (.ref p) H'
def spSideF : Sp := fun vs H Q _ => ∃ D x y : Int, vs = [.int D, .int x, .int y] ∧ 0 ≤ D ∧ D < 2 ^ 1000 ∧ x.natAbs < 2 ^ 2450 ∧ y.natAbs < 2 ^ 1000 ∧ Q (.int (sideF D x y)) H
def spDrawn : Sp := fun vs H Q _ => ∃ (g : Addr) (D n : Int) (k : Nat), vs = [.ref g, .int D, .int n] ∧ GenAt H g k ∧ k ≤ 2 ^ 39 ∧ 0 ≤ D ∧ D < 2 ^ 500 ∧ 1 ≤ n ∧ n ≤ 40 ∧
  ∀ (x y b : Int) (p : Addr) (H' : Hp), x.natAbs < 2 ^ 150 → y.natAbs < 2 ^ 150 → 1 ≤ b → b < 2 ^ 150 → H p = none → H' p = some (.tup (rootV (least D x y b))) → GenAt H' g (k + 100) → Keep g H H' → Q (.ref p) H'
def spFloorRight : Sp := fun vs H Q _ => ∃ (D : Int) (a : Addr) (t : Int × Int × Int), vs = [.int D, .ref a] ∧ Meas D ∧ D < 2 ^ 500 ∧ RootAt D H a t ∧ Small t ∧ ∀ H', Same H H' → Q (.bl true) H'
theorem Keep.free {g p : Addr} {H H' : Hp} (k : Keep g H H') (hp : p ≠ g) (h : H' p = none) : H p = none := by
  cases e : H p with
  | none => rfl
  | some o =>
    rw [k p o hp e] at h
    cases h
theorem wholes_get {H : Hp} {m : Int} {x : V} (h : wholesB H m x = true) : ∃ a xs, x = .ref a ∧ H a = some (.tup xs) ∧ (xs.length : Int) = m ∧ xs.all isIntV = true := by
  cases x with
  | ref a =>
    have h2 : (match H a with | some (.tup xs) => decide ((xs.length : Int) = m) && xs.all isIntV | _ => false) = true := h
    cases e : H a with
    | none => rw [e] at h2; cases h2
    | some o =>
      rw [e] at h2
      cases o with
      | tup xs =>
        obtain ⟨p, q⟩ := Bool.and_eq_true_iff.mp h2
        exact ⟨a, xs, rfl, e, of_decide_eq_true p, q⟩
      | _ => cases h2
  | _ => cases h
theorem isInt_get {x : V} (h : isIntV x = true) : ∃ i, x = .int i := by
  cases x with
  | int i => exact ⟨i, rfl⟩
  | _ => cases h
theorem wholes3 {H : Hp} {x : V} (h : wholesB H 3 x = true) : ∃ a i j k, x = .ref a ∧ H a = some (.tup [.int i, .int j, .int k]) := by
  obtain ⟨a, xs, e, ha, hl, hall⟩ := wholes_get h
  have hl3 : xs.length = 3 := by omega
  match xs, hl3 with
  | [u, v, w'], _ =>
    simp only [List.all_cons, List.all_nil, Bool.and_true, Bool.and_eq_true] at hall
    obtain ⟨h1, h2, h3⟩ := hall
    obtain ⟨i, rfl⟩ := isInt_get h1
    obtain ⟨j, rfl⟩ := isInt_get h2
    obtain ⟨l, rfl⟩ := isInt_get h3
    exact ⟨a, i, j, l, e, ha⟩
theorem rootB3 {D : Int} {H : Hp} {a : Addr} {i j k : Int} (h : H a = some (.tup [.int i, .int j, .int k])) : rootB D H (.ref a) = (decide (1 ≤ k) && (decide (gcdI (gcdI i j) k ≤ 1) && (decide (j = 0) || !decide (Sq D)))) := by
  unfold rootB wholesB
  simp only [h, List.length_cons, List.length_nil, List.all_cons, List.all_nil, isIntV, Bool.and_self, Bool.and_true]
  rfl
theorem rootB_not {D : Int} {H : Hp} {x : V} (h : wholesB H 3 x = false) : rootB D H x = false := by
  unfold rootB
  rw [h, Bool.false_and]
theorem measB_int {i : Int} : measB (.int i) = (decide (5 ≤ i) && decide (i % 4 < 2)) := rfl
theorem rIsi_ty {K : PySem.W.Frag} {H : Hp} {x : V} {t c : String} {b : Bool} {Q : VK} (ht : tyS H x = some t) (hb : kitB t c = some b) (q : Q (.bl b) H) : rIsi K [x, .ty c] H Q :=
  ⟨x, .ty c, .type t, .type c, b, rfl, .ty c, (tyS_of ht).1, kit_ty hb, q⟩
theorem tyS_tuple {H : Hp} {x : V} (h : tyS H x = some "tuple") : ∃ a xs, x = .ref a ∧ H a = some (.tup xs) := by
  cases x with
  | ref a =>
    have h2 : (match H a with | some (.lst _) => some "list" | some (.tup _) => some "tuple" | some (.dK _) => some "dict" | _ => none) = some "tuple" := h
    cases e : H a with
    | none => rw [e] at h2; cases h2
    | some o =>
      rw [e] at h2
      cases o with
      | tup xs => exact ⟨a, xs, rfl, e⟩
      | lst xs => exact absurd (Option.some.inj h2) (by decide)
      | dK xs => exact absurd (Option.some.inj h2) (by decide)
      | _ => cases h2
  | non => exact absurd (Option.some.inj h) (by decide)
  | bl _ => exact absurd (Option.some.inj h) (by decide)
  | int _ => exact absurd (Option.some.inj h) (by decide)
  | str _ => exact absurd (Option.some.inj h) (by decide)
  | _ => cases h
theorem tyS_tup {H : Hp} {a : Addr} {xs : List V} (h : H a = some (.tup xs)) : tyS H (.ref a) = some "tuple" := by
  show (match H a with | some (.lst _) => some "list" | some (.tup _) => some "tuple" | some (.dK _) => some "dict" | _ => none) = some "tuple"
  rw [h]
theorem wholes_not {H : Hp} {m : Int} {x : V} {t : String} (h : tyS H x = some t) (ht : t ≠ "tuple") : wholesB H m x = false := by
  cases hw : wholesB H m x with
  | false => rfl
  | true =>
    obtain ⟨a, xs, rfl, ha, _⟩ := wholes_get hw
    rw [tyS_tup ha] at h
    exact absurd (Option.some.inj h).symm ht
theorem wholes_tup {H : Hp} {m : Int} {a : Addr} {xs : List V} (h : H a = some (.tup xs)) : wholesB H m (.ref a) = (decide ((xs.length : Int) = m) && xs.all isIntV) := by
  unfold wholesB
  simp only [h]
theorem any_tuple (K : PySem.W.Frag) {H : Hp} {x : V} (h : OkItem H x) : (∃ t, tyS H x = some t ∧ kitB t "tuple" = some false ∧ t ≠ "tuple") ∨ (∃ a xs, x = .ref a ∧ H a = some (.tup xs)) := by
  obtain ⟨t, ht⟩ := h
  have hm := (tyS_of (K := K) ht).2.1
  simp only [List.mem_cons, List.not_mem_nil, or_false] at hm
  rcases hm with rfl | rfl | rfl | rfl | rfl | rfl | rfl
  · exact .inl ⟨_, ht, by decide +kernel, by decide⟩
  · exact .inl ⟨_, ht, by decide +kernel, by decide⟩
  · exact .inl ⟨_, ht, by decide +kernel, by decide⟩
  · exact .inl ⟨_, ht, by decide +kernel, by decide⟩
  · exact .inl ⟨_, ht, by decide +kernel, by decide⟩
  · exact .inr (tyS_tuple ht)
  · exact .inl ⟨_, ht, by decide +kernel, by decide⟩
theorem rt_le {n : Int} (h : 0 ≤ n) : 0 ≤ rt n ∧ rt n ≤ n := by
  obtain ⟨s0, s1, s2⟩ := rt_spec h
  refine ⟨s0, ?_⟩
  by_cases h : rt n ≤ 0
  · omega
  · have := Int.mul_le_mul_of_nonneg_right (show 1 ≤ rt n by omega) s0
    omega
theorem ediv_size {x b : Int} (h : 1 ≤ b) : (x / b).natAbs ≤ x.natAbs + 1 := by
  have h1 := Int.emod_nonneg x (show b ≠ 0 by omega)
  have h2 := Int.emod_lt_of_pos x (show 0 < b by omega)
  have h3 := Int.mul_ediv_add_emod x b
  by_cases hx : 0 ≤ x
  · have h4 := Int.ediv_nonneg hx (show 0 ≤ b by omega)
    have h5 := Int.ediv_le_self b hx
    omega
  · have hq : x / b ≤ -1 := by
      by_cases h : x / b ≤ -1
      · exact h
      · have := Int.mul_nonneg (show 0 ≤ b by omega) (show 0 ≤ x / b by omega)
        omega
    have h6 := Int.mul_le_mul_of_nonpos_right h (show x / b + 1 ≤ 0 by omega)
    rw [Int.mul_add, Int.mul_one] at h6
    omega
theorem flat_int {i : Int} (h : i.natAbs < 2 ^ 1900) : flatText (.int i) = some (toString i : Str) := by
  have h2 : i.natAbs.log2 < 1920 := Nat.lt_of_lt_of_le (PySem.Flt.log2_lt_of (by decide) h) (by decide)
  show (if i.natAbs.log2 < 1920 then some (toString i : Str) else none) = _
  rw [if_pos h2]
theorem sideF_small (D x y : Int) : (sideF D x y).natAbs ≤ 1 := by
  unfold sideF
  repeat' split
  all_goals decide
theorem least_small {D x y b : Int} (h0 : 0 ≤ D) (h1 : D < 2 ^ 200) (hx : x.natAbs < 2 ^ 600) (hy : y.natAbs < 2 ^ 600) (hb : b.natAbs < 2 ^ 600) (hb0 : b ≠ 0) : Small (least D x y b) := by
  obtain ⟨r0, r1⟩ := rt_le h0
  unfold least Small
  split
  · have w1 : (y * rt D).natAbs < 2 ^ (600 + 200) := wide_lt hy (by omega)
    simp only [Nat.reduceAdd] at w1
    obtain ⟨p, q, r⟩ := red_size (x := x + y * rt D) (y := 0) hb0
    exact ⟨by omega, by omega, by omega⟩
  · obtain ⟨p, q, r⟩ := red_size (x := x) (y := y) hb0
    exact ⟨by omega, by omega, by omega⟩
theorem RootAt.least {D x y b : Int} {H : Hp} {a : Addr} (h : H a = some (.tup (rootV (least D x y b)))) (hb0 : b ≠ 0) : RootAt D H a (least D x y b) := ⟨h, least_good hb0⟩
/-- behind all draws: what stood stands, a generator apart -/
def spRight (K : PySem.W.Frag) : Sp := fun vs H Q _ => ∃ g : Addr, vs = [.ref g] ∧ GenAt H g 100000 ∧ ∀ H', Keep g H H' → Q (.bl true) H'
def spLaw (K : PySem.W.Frag) : Sp := fun vs H Q _ => ∃ (a : Addr) (ns : List Int), vs = [.ref a] ∧ SqL K H a (ns.map V.int) ∧ ns.length ≤ 63 ∧ ∀ H', Q (.bl true) H'

theorem dpAll_ints {K : PySem.W.Frag} {H : Hp} : ∀ ns : List Int, DpAll K H (ns.map V.int) (ns.map PyData.int)
  | [] => .nil
  | n :: ns => .cons (.int n) (dpAll_ints ns)
theorem dp_ints {K : PySem.W.Frag} {H : Hp} {a : Addr} {ns : List Int} (h : H a = some (.lst (ns.map V.int))) : Dp K H (.ref a) (.list (ns.map PyData.int)) := .lst (SqL.of h) (dpAll_ints ns)
theorem eqv_same {d : PyData} (h : SeqAt.shaped d = true) : PyData.eqv d d = true := SeqAt.eqv_refl d (SeqAt.canLay_of_shaped h)
/-- two lists of the same ints -/
theorem ne_ints {K : PySem.W.Frag} {H : Hp} {a b : Addr} {Q : VK} (ns : List Int) (h1 : H a = some (.lst (ns.map V.int))) (h2 : H b = some (.lst (ns.map V.int))) (hs : SeqAt.shaped (.list (ns.map PyData.int)) = true) (q : Q (.bl false) H) : rNeD K (.ref a) (.ref b) H Q :=
  ⟨_, _, dp_ints h1, dp_ints h2, hs, hs, by rw [eqv_same hs]; exact q⟩
theorem eq_ints {K : PySem.W.Frag} {H : Hp} {a b : Addr} {Q : VK} (ns : List Int) (h1 : H a = some (.lst (ns.map V.int))) (h2 : H b = some (.lst (ns.map V.int))) (hs : SeqAt.shaped (.list (ns.map PyData.int)) = true) (q : Q (.bl true) H) : rEqD K (.ref a) (.ref b) H Q :=
  ⟨_, _, dp_ints h1, dp_ints h2, hs, hs, by rw [eqv_same hs]; exact q⟩
theorem ne_new {H : Hp} {p q : Addr} {o : HO} (h : upd H p o q = none) : p ≠ q := fun z => by
  rw [← z, upd_same] at h
  cases h
end Kx

set_option Elab.async false
set_option linter.all false
set_option maxRecDepth 100000
set_option maxHeartbeats 4000000
set_option exponentiation.threshold 4000
/-! Defs that ask for the repr of data: no repr is under way around them. -/
namespace Kx
open PySem PySem.Spec PyProof.Rows L2

structure FnG (P : Program) (w : World) (K : PySem.W.Frag) (mg : Str → Option Value) (base : Heap) (k : Nat) (f : Addr) (fd : FuncData) (ps : List Str) (sp : Sp) : Prop where
  len : ∀ vs H Q E, sp vs H Q E → vs.length = ps.length
  run : ∀ (A : Around) (outer : List Env) (s : Shared) (H : Hp) (args : Args) (us : List Value) (vs : List V) (Q : VK) (E : XK), A.guards = some [] → Room k A → Env0 P w K mg base A outer s H → BindsTo s fd args (ps.zip us) → Vals vs us → sp vs H Q E →
    codeAny (model P w) A (.call (.ref f) args) (CR CX0 outer P w H s Q E) s
theorem FnG.of {P : Program} {w : World} {K : PySem.W.Frag} {mg : Str → Option Value} {base : Heap} {k : Nat} {f : Addr} {fd : FuncData} {ps : List Str} {sp : Sp} (F : FnOk P w K mg base CX0 k f fd ps sp) : FnG P w K mg base k f fd ps sp :=
  ⟨F.len, fun A outer s H args us vs Q E _ => F.run A outer s H args us vs Q E⟩
section
variable {P : Program} {w : World} {K : PySem.W.Frag} {mg : Str → Option Value} {base : Heap}
/-- a def by its body, which may lean on the guards -/
theorem fnG_mk {x qual : Str} {st : Stmt} {f : Addr} {fd : FuncData} {N ps : List Str} {k : Nat} {sp : Sp} (F : Fun K x qual st f fd) (S : FnScope N ps (defScope st)) (hlen : ∀ vs H Q E, sp vs H Q E → vs.length = ps.length)
    (body : ∀ (cdv : Value) (A : Around) (outer : List Env) (s : Shared) (H : Hp) (vs : List V) (Q : VK) (E : XK), (A.deeper (envOfC qual (defScope st) s.heap.objs.size f cdv)).guards = some [] → Room k (A.deeper (envOfC qual (defScope st) s.heap.objs.size f cdv)) → sp vs H Q E →
      ∃ t, PSs (cxOf CX0 P w K mg base N qual (defScope st) f cdv A outer s H E).nox (defBody st) t ∧ t { nx := fun _ H' => Q .non H', rt := Q } (L2.start N vs) H) : FnG P w K mg base (k + 1) f fd ps sp := by
  obtain ⟨cls0, dct0, kwd0, doc0, mod0, ann0, cdv, typ0, slots0, rfl, look, code⟩ := F.ex
  constructor
  · exact hlen
  · intro A outer s H args us vs Q E gd room e0 binds rel hsp
    have ln := hlen _ _ _ _ hsp
    have kept : ∀ b o, base.get? b = some o → s.heap.get? b = some o := fun b o z => (e0.bs b o z).1
    have kin := e0.mod.kin.keeps kept
    have kinds : ∀ y ∈ ps.zip us, (defScope st).names.lookup y.1 = some .local ∨ ((defScope st).names.lookup y.1 = some .cell ∧ ((cellsFrom (s.heap.objs.size + 1) (defScope st).names []).lookup y.1).isSome = true) := by
      rintro ⟨nm, vl⟩ hy
      rcases S.par nm (List.of_mem_zip hy).1 with h | h
      · left; exact h
      · right; exact ⟨h, PySem.W.cellsFrom_some _ _ _ (.inl h)⟩
    apply codeAny_call_function room.depth (kin _ _ look) rfl S.co S.gen rfl (PySem.W.codeRec_of kin code)
    apply binds
    refine wpAny_newFunctionEnv_cells S.kind kinds fun env henv s1 ic => ?_
    subst henv
    refine ⟨(e0.mod.nolimit.keeps kept).keeps ic.toInCall.keep, codeAny_func ?_⟩
    obtain ⟨t, der, rd⟩ := body cdv A outer s H vs Q E gd (room.deeper _) hsp
    have inv0 : Inv (cxOf CX0 P w K mg base N qual (defScope st) f cdv A outer s H E) [] (L2.start N vs) H s1 := inv_start S room.hd e0 ln rel ic
    have back : ∀ {σ1 : SV} {H1 : Hp} {s2 : Shared} {v : V} {u : Value}, Inv (cxOf CX0 P w K mg base N qual (defScope st) f cdv A outer s H E) [] σ1 H1 s2 → RelV v u → Q v H1 → CE outer P w H s Q u s2 := by
      intro σ1 H1 s2 v u J rv q
      exact ⟨v, H1, J.os, J.bare, J.base, J.hok, rv, q⟩
    refine wpAny_mono (der.nox.run [] s1 (L2.start N vs) H _ inv0 rd) (fun fl s2 hs => ?_) fun e s2 hs => hs
    cases fl with
    | ret u => exact let ⟨v, σ1, H1, J, rv, q⟩ := hs; back J rv q
    | next => exact let ⟨σ1, H1, J, q⟩ := hs; back (v := V.non) (u := Value.none) J rfl q
    | brk => exact let ⟨_, _, _, q⟩ := hs; q.elim
    | cont => exact let ⟨_, _, _, q⟩ := hs; q.elim
end
structure DefG (P : Program) (w : World) (K : PySem.W.Frag) (mg : Str → Option Value) (base : Heap) (k : Nat) (x : Str) (f : Addr) (fd : FuncData) (ps : List Str) (sp : Sp) : Prop where
  F : FnG P w K mg base k f fd ps sp
  m : mg x = some (.ref f)
  kp : PySem.W.keepIn K (.ref f) = true
  b : Binds K fd ps []
section
variable {X : Cx} {k j : Nat} {f : Addr} {fd : FuncData} {ps ks : List Str} {sp : Sp} {x : Str} {p pos : Pos} {e : Expr} {es : List Expr} {t tk : TA} {kws : List Keyword}
theorem pe_g (D : DefG X.prog X.w X.K X.mg X.base k x f fd ps sp) (gd : X.A.guards = some []) (hr : Room j X.A) (ha : PA X (e :: es) t) (hkj : k ≤ j := by decide) (hg : Gl X x := by rfl) (hdb : (x == ("__debug__" : Str)) = false := by decide)
    (he : starEach (e :: es) X.env = (false, eval e X.env) :: starEach es X.env := by rfl) (hpl : (backTo pos (starEach es X.env)).any (·.1) = false := by rfl) : PE X (.Call (.Name x p) (e :: es) [] pos) (tD sp t) := by
  refine ⟨fun pins s σ H Q I h => wpAny_Call_Name_kw (ld_glob I hg D.m ?_ hdb)⟩
  refine PySem.W.callWith_K (h₀ := X.base) I.ok.mod.kin D.kp (thn (ha.run pos pins s σ H _ I h) fun us s1 ⟨vs, H1, I1, r, q⟩ => ⟨I1.kIn, ?_⟩) he hpl
  have hl : us.length = ps.length := r.length.symm.trans (D.F.len _ _ _ _ q)
  have hb := D.b s1 us I1.kIn (by rw [List.append_nil]; exact hl)
  rw [List.append_nil] at hb
  refine wpAny_call (codeAny_mono (D.F.run X.A X.stack s1 H1 ⟨us, []⟩ us vs Q E0 gd (hr.mono hkj) I1.env0 hb r q) fun rr s2 hq => ?_)
  cases rr with
  | error er => exact (hq : False).elim
  | ok fl =>
    cases fl with
    | ret u => exact I1.after hq
    | next => exact False.elim hq
    | brk => exact False.elim hq
    | cont => exact False.elim hq
end
/-- repr of data -/
theorem cr_reprD {X : Cx} (gd : X.A.guards = some []) (hu : X.A.units + 64 < cLine) : CallR X (.builtin "repr") (fun vs H Q => ∃ (x : V) (d : PyData), vs = [x] ∧ Dp X.K H x d ∧ d.showable = true ∧ d.hasDict = false ∧ d.depth ≤ 60 ∧ d.shown.length ≤ sizeLine ∧ Q (.str d.shown) H) := by
  intro pins s σ H vs us Q I r h
  obtain ⟨x, d, rfl, hd, h1, h2, h3, h4, q⟩ := h
  obtain ⟨u, rfl, rx⟩ := vals1 r
  cases x with
  | ref a =>
    cases rx
    obtain ⟨as, rd⟩ := Dp.reads I d (.ref a) (.ref a) hd rfl
    exact repr_of_reads' rd h1 (PyData.noDict_hsm h2) gd (by omega) (fun _ _ z => z) (fun h' t tk hk => ⟨.str d.shown, H, I.kept hk, ⟨_, rfl⟩, q⟩) h4
  | int i =>
    cases hd
    obtain ⟨t, rfl⟩ := rx
    exact PySem.P.repr_of_int (by simpa [PyData.showable] using h1) ⟨.str _, H, I.tok _, ⟨_, rfl⟩, by simpa only [PyData.shown] using q⟩
  | bl b =>
    cases hd
    cases rx
    exact PySem.P.repr_of_bool ⟨.str _, H, I.tok _, ⟨_, rfl⟩, by simpa only [PyData.shown] using q⟩
  | non =>
    cases hd
    cases rx
    exact PySem.P.repr_of_none ⟨.str _, H, I.tok _, ⟨_, rfl⟩, by simpa only [PyData.shown] using q⟩
  | str z =>
    cases hd
    obtain ⟨t, rfl⟩ := rx
    exact PySem.P.repr_of_str ⟨.str _, H, I.tok _, ⟨_, rfl⟩, by simpa only [PyData.shown] using q⟩ (by simpa only [PyData.shown] using h4)
  | _ => cases hd
end Kx
namespace Kx
open PySem PySem.Spec PyProof.Rows L2
section
variable {P : Program} {w : World} {K : PySem.W.Frag} {mg mb : Str → Option Value} {k : Nat} {fa a : Addr} {fd : FuncData} {x : Str} {sp : Sp} {s₁ : Shared} {vs : List Value} {ns : List Int}
/-- the law's def at a heap in which nothing but the script is tracked -/
theorem lawG_at (kin : K.In s₁.heap) (gl : s₁.heap.Ns mainGlobals mg) (bl : s₁.heap.Ns builtinsNs mb) (bb : ∀ x : Str, x ≠ "__name__" → mb x = bootBuiltins x) (lim : s₁.heap.NoLimit) (gens : s₁.gens = #[])
    (sc : s₁.heap.get? a = some { cls := .type "list", data := .seq vs.toArray }) (hr : Room k callerA)
    (F : ∀ base : Heap, K.In base → base.Ns mainGlobals mg → FnG P w K mg base k fa fd [x] sp) (bind : ∀ (s : Shared) (u : Value), BindsTo s fd ⟨[u], []⟩ [(x, u)])
    (H : Hp) (only : Only H) (ok : HOk P w H s₁.heap) (lone : ∀ b, H b ≠ none → b = a) (notK : H a ≠ none → K.lookup a = none) (want : sp [.ref a] H (fun v _ => v = .bl true) E0) :
    codeAny (model P w) callerA (.call (.ref fa) ⟨[.ref a], []⟩) (fun r s' => r = .ok (.ret (.bool true)) ∧ OldK s₁.heap s'.heap ∧ s'.os = s₁.os ∧ AllBare s'.gens) s₁ := by
  have free : ∀ {b : Addr}, b ≠ a → H b = none := fun {b} hb => by
    cases q : H b with
    | none => rfl
    | some u => exact (hb (lone b (by rw [q]; exact Option.some_ne_none u))).elim
  have dictFree : ∀ {b : Addr} {o : Obj} {es : Array DictEntry} {ep : Nat}, s₁.heap.get? b = some o → o.data = .dict es ep → H b = none := fun {b o es ep} e d => by
    by_cases hb : b = a
    · subst hb
      rw [sc] at e
      cases e
      exact absurd d (fun z => by cases z)
    · exact free hb
  have kNs : ∀ {b : Addr} {m : Str → Option Value}, s₁.heap.Ns b m → (hidT s₁.heap H).Ns b m := by
    rintro b m ⟨o, es, ep, e, d, r⟩
    exact ⟨o, es, ep, hidT_get e (dictFree e d), d, r⟩
  have kFree : ∀ b o, K.lookup b = some o → H b = none := fun b o e => by
    by_cases hb : b = a
    · subst hb
      cases q : H b with
      | none => rfl
      | some u =>
        rw [notK (by rw [q]; exact Option.some_ne_none u)] at e
        cases e
    · exact free hb
  have kinB : K.In (hidT s₁.heap H) := fun b o e => hidT_get (kin b o e) (kFree b o e)
  have modB : Mod K mg (hidT s₁.heap H) := ⟨kinB, kNs gl, ⟨mb, kNs bl, bb⟩, by
    obtain ⟨mc, l1, l2⟩ := lim
    exact ⟨mc, kNs l1, l2⟩⟩
  have entry : Env0 P w K mg (hidT s₁.heap H) callerA [] s₁ H :=
    { frames := rfl, mod := modB, bs := fun b o e => of_hidT e, bsz := Nat.le_of_eq (hidT_size _ _), funs := trivial, frf := fun b hb => (by cases hb), hok := ok, bare := .of_eq gens }
  have go := (F _ kinB (kNs gl)).run callerA [] s₁ H ⟨[.ref a], []⟩ [.ref a] [.ref a] (fun v _ => v = .bl true) E0 rfl hr entry (bind s₁ (.ref a)) (.cons rfl .nil) want
  refine codeAny_mono go fun r s' h => ?_
  match r, h with
  | .error _, h => exact (h : False).elim
  | .ok .next, h => exact (h : False).elim
  | .ok .brk, h => exact (h : False).elim
  | .ok .cont, h => exact (h : False).elim
  | .ok (.ret u), h =>
    obtain ⟨v, H1, os, bare, un, ok1, rel, q⟩ := h
    have q1 : v = .bl true := q
    rw [q1] at rel
    have ru : u = Value.bool true := rel
    rw [ru]
    refine ⟨rfl, OldK.of_keep fun b o e => ?_, os, bare⟩
    cases hb : H b with
    | none => exact un.keep b o e hb (fun z => by cases z) (fun z => by cases z)
    | some t =>
      rcases only b with z | ⟨ob, xs, z⟩
      · rw [hb] at z; cases z
      · have e1 := (ok b _ z).1
        rw [e] at e1
        cases e1
        exact (ok1 b _ (un.frzs b _ _ z)).1
theorem lawG (kin : K.In s₁.heap) (gl : s₁.heap.Ns mainGlobals mg) (bl : s₁.heap.Ns builtinsNs mb) (bb : ∀ x : Str, x ≠ "__name__" → mb x = bootBuiltins x) (lim : s₁.heap.NoLimit) (gens : s₁.gens = #[])
    (sc : s₁.heap.get? a = some { cls := .type "list", data := .seq vs.toArray }) (hints : IntsAre vs ns) (hl : ns.length ≤ sizeLine) (hr : Room k callerA)
    (F : ∀ base : Heap, K.In base → base.Ns mainGlobals mg → FnG P w K mg base k fa fd [x] sp) (bind : ∀ (s : Shared) (u : Value), BindsTo s fd ⟨[u], []⟩ [(x, u)])
    (want : ∀ H : Hp, Only H → SqL K H a (ns.map V.int) → sp [.ref a] H (fun v _ => v = .bl true) E0) :
    codeAny (model P w) callerA (.call (.ref fa) ⟨[.ref a], []⟩) (fun r s' => r = .ok (.ret (.bool true)) ∧ OldK s₁.heap s'.heap ∧ s'.os = s₁.os ∧ AllBare s'.gens) s₁ := by
  have rv := vals_ints hints
  have lenV := hints.length
  cases hk : K.lookup a with
  | some o =>
    have e := kin a o hk
    rw [sc] at e
    cases e
    have on : Only (fun _ => none) := fun _ => .inl rfl
    refine lawG_at kin gl bl bb lim gens sc hr F bind (fun _ => none) on (fun b u z => by cases z) (fun b z => (z rfl).elim) (fun z => (z rfl).elim) (want _ on ?_)
    exact .inr ⟨_, vs.toArray, _, hk, rfl, rfl, rfl, by rw [List.size_toArray, lenV]; exact hl, by simpa using rv⟩
  | none =>
    have on : Only (fun b => if b = a then some (.frz { cls := .type "list", data := .seq vs.toArray } (.lst (ns.map V.int))) else none) := fun b => by
      by_cases hb : b = a
      · exact .inr ⟨_, _, if_pos hb⟩
      · exact .inl (if_neg hb)
    refine lawG_at kin gl bl bb lim gens sc hr F bind _ on (fun b u z => ?_) (fun b z => ?_) (fun _ => hk) (want _ on (.inl (.inr ⟨_, if_pos rfl⟩)))
    · by_cases hb : b = a
      · have z1 := (if_pos hb).symm.trans z
        cases z1
        rw [hb]
        exact ⟨sc, by rw [List.length_map]; exact hl, vs, _, rv, sc⟩
      · have z1 := (if_neg hb).symm.trans z
        cases z1
    · by_cases hb : b = a
      · exact hb
      · exact (z (if_neg hb)).elim
end
theorem walkG {l : PySem.W.OpenLaw} {n k : Nat} {q : Program} {loose : List Str} {XP : (Str → Option Value) → Heap → Prop} {YP : World → Heap → Prop} {d : DefRec} {K : Params → PySem.W.Frag} {sp : World → Sp} {x : Str}
    (hn : l.most = some n) (hn2 : n ≤ sizeLine) (hdf : d.params.defaults = []) (hr : Room k callerA) (hY : ∀ (w : World) (h : Heap), YP w h → (K w.params).In h)
    (F : ∀ (w : World) (mg : Str → Option Value) (fa : Addr) (h : Heap), (K w.params).In h → h.Ns mainGlobals mg → mg d.name = some (.ref fa) →
      ∃ fd : FuncData, (∀ (s : Shared) (u : Value), BindsTo s fd ⟨[u], []⟩ [(x, u)]) ∧ ∀ base : Heap, (K w.params).In base → base.Ns mainGlobals mg → FnG l.prog w (K w.params) mg base k fa fd [x] (sp w))
    (want : ∀ (w : World) (H : Hp) (a : Addr) (ns : List Int), ns.length ≤ n → Only H → SqL (K w.params) H a (ns.map V.int) → sp w [.ref a] H (fun v _ => v = .bl true) E0) :
    PySem.W.WalkO q loose XP YP l.row.toRowW d [] (fun f vs => PySem.call f vs) := by
  apply Att.attach_call hn hdf
  intro w s₀ s₁ mg mb fa o pm cd doc a vs ns G Y ho hd hcd hmg hobj hints hlen hg
  obtain ⟨fd, hb, hF⟩ := F w mg fa _ (hY w _ Y) G.T.g hmg
  exact lawG (hY w _ Y) G.T.g G.T.b G.T.builtins G.T.nolimit hg hobj hints (Nat.le_trans hlen hn2) hr hF hb (fun H hO hS => want w H a ns hlen hO hS)
end Kx

set_option Elab.async false
set_option linter.all false
set_option maxRecDepth 100000
set_option maxHeartbeats 4000000
set_option exponentiation.threshold 4000
/-! The reckoning of root numbers. -/
namespace Kx
open PySem
theorem least_red {D x y b : Int} (h : Sq D → y = 0) : least D x y b = red x y b := by
  unfold least
  split
  · rename_i hs
    rw [h hs, Int.zero_mul, Int.add_zero]
  · rfl
def plusT (D s : Int) (t u : Int × Int × Int) : Int × Int × Int := least D (t.1 * u.2.2 + s * u.1 * t.2.2) (t.2.1 * u.2.2 + s * u.2.1 * t.2.2) (t.2.2 * u.2.2)
def timesT (D : Int) (t u : Int × Int × Int) : Int × Int × Int := least D (t.1 * u.1 + D * t.2.1 * u.2.1) (t.1 * u.2.1 + t.2.1 * u.1) (t.2.2 * u.2.2)
def normT (D : Int) (u : Int × Int × Int) : Int := u.1 * u.1 - D * u.2.1 * u.2.1
def invT (D : Int) (u : Int × Int × Int) : Int × Int × Int := least D (u.2.2 * u.1) (-u.2.2 * u.2.1) (normT D u)
theorem Good.flat {D : Int} {t : Int × Int × Int} (h : Good D t) (s : Sq D) : t.2.1 = 0 := by
  rcases h.2.2 with h | h
  · exact h
  · exact absurd s h
theorem mul_ne {a b : Int} (h : a ≠ 0) (h2 : b ≠ 0) : a * b ≠ 0 := Int.mul_ne_zero h h2
theorem below_ne {D : Int} {t : Int × Int × Int} (h : Good D t) : t.2.2 ≠ 0 := by have := h.1; omega
theorem plus_good {D s : Int} {t u : Int × Int × Int} (ht : Good D t) (hu : Good D u) : Good D (plusT D s t u) := least_good (mul_ne (below_ne ht) (below_ne hu))
theorem times_good {D : Int} {t u : Int × Int × Int} (ht : Good D t) (hu : Good D u) : Good D (timesT D t u) := least_good (mul_ne (below_ne ht) (below_ne hu))
theorem norm_ne {D : Int} {u : Int × Int × Int} (h0 : 0 ≤ D) (hu : Good D u) (hz : ¬ (u.1 = 0 ∧ u.2.1 = 0)) : normT D u ≠ 0 := fun e => by
  unfold normT at e
  by_cases hy : u.2.1 = 0
  · rw [hy] at e
    have h1 : u.1 ≠ 0 := fun z => hz ⟨z, hy⟩
    have h2 := xx_pos h1
    rw [Int.mul_zero] at e
    omega
  · rcases hu.2.2 with h | h
    · exact hy h
    · exact h (sq_of (x := u.1) h0 hy (by omega))
theorem plus_red {D s : Int} {t u : Int × Int × Int} (ht : Good D t) (hu : Good D u) : plusT D s t u = red (t.1 * u.2.2 + s * u.1 * t.2.2) (t.2.1 * u.2.2 + s * u.2.1 * t.2.2) (t.2.2 * u.2.2) :=
  least_red fun h => by rw [ht.flat h, hu.flat h, Int.zero_mul, Int.mul_zero, Int.zero_mul]; rfl
theorem times_red {D : Int} {t u : Int × Int × Int} (ht : Good D t) (hu : Good D u) : timesT D t u = red (t.1 * u.1 + D * t.2.1 * u.2.1) (t.1 * u.2.1 + t.2.1 * u.1) (t.2.2 * u.2.2) :=
  least_red fun h => by rw [ht.flat h, hu.flat h, Int.zero_mul, Int.mul_zero]; rfl
theorem inv_red {D : Int} {u : Int × Int × Int} (hu : Good D u) : invT D u = red (u.2.2 * u.1) (-u.2.2 * u.2.1) (normT D u) :=
  least_red fun h => by rw [hu.flat h, Int.mul_zero]
theorem inv_good {D : Int} {u : Int × Int × Int} (h0 : 0 ≤ D) (hu : Good D u) (hz : ¬ (u.1 = 0 ∧ u.2.1 = 0)) : Good D (invT D u) := least_good (norm_ne h0 hu hz)
theorem ringA (a3 p a1 P1 D a2 P2 : Int) : a3 * p * (a1 * P1 + D * a2 * P2) = a3 * (a1 * (p * P1) + D * a2 * (p * P2)) := by grind
theorem ringB (u v U1 V3 V1 U3 : Int) : u * v * (U1 * V3 + 1 * V1 * U3) = (u * U1) * (v * V3) + 1 * (v * V1) * (u * U3) := by grind
theorem ringC (a1 a2 a3 b1 b2 b3 c1 c2 c3 D : Int) : a3 * (a1 * (b1 * c3 + 1 * c1 * b3) + D * a2 * (b2 * c3 + 1 * c2 * b3)) = (a1 * b1 + D * a2 * b2) * (a3 * c3) + 1 * (a1 * c1 + D * a2 * c2) * (a3 * b3) := by grind
theorem ringD (a3 p a1 P1 a2 P2 : Int) : a3 * p * (a1 * P2 + a2 * P1) = a3 * (a1 * (p * P2) + a2 * (p * P1)) := by grind
theorem ringE (a1 a2 a3 b1 b2 b3 c1 c2 c3 : Int) : a3 * (a1 * (b2 * c3 + 1 * c2 * b3) + a2 * (b1 * c3 + 1 * c1 * b3)) = (a1 * b2 + a2 * b1) * (a3 * c3) + 1 * (a1 * c2 + a2 * c1) * (a3 * b3) := by grind
theorem ringF (a3 p P3 : Int) : a3 * p * (a3 * P3) = a3 * (a3 * (p * P3)) := by grind
theorem ringG (u v U3 V3 : Int) : u * v * (U3 * V3) = (u * U3) * (v * V3) := by grind
theorem ringH (a3 b3 c3 : Int) : a3 * (a3 * (b3 * c3)) = (a3 * b3) * (a3 * c3) := by grind
theorem ringI (q i T1 b1 D T2 b2 : Int) : q * i * (T1 * b1 + D * T2 * b2) = i * (b1 * (q * T1) + D * b2 * (q * T2)) := by grind
theorem ringJ (i a1 I1 D a2 I2 b1 b2 : Int) : i * (b1 * (a1 * I1 + D * a2 * I2) + D * b2 * (a1 * I2 + a2 * I1)) = b1 * (a1 * (i * I1) + D * a2 * (i * I2)) + D * b2 * (a1 * (i * I2) + a2 * (i * I1)) := by grind
theorem ringK (a1 a2 b1 b2 b3 D : Int) : b1 * (a1 * (b3 * b1) + D * a2 * (-b3 * b2)) + D * b2 * (a1 * (-b3 * b2) + a2 * (b3 * b1)) = b3 * (b1 * b1 - D * b2 * b2) * a1 := by grind
theorem ringL (q i T1 b1 T2 b2 : Int) : q * i * (T1 * b2 + T2 * b1) = i * (b2 * (q * T1) + b1 * (q * T2)) := by grind
theorem ringM (i a1 I1 D a2 I2 b1 b2 : Int) : i * (b2 * (a1 * I1 + D * a2 * I2) + b1 * (a1 * I2 + a2 * I1)) = b2 * (a1 * (i * I1) + D * a2 * (i * I2)) + b1 * (a1 * (i * I2) + a2 * (i * I1)) := by grind
theorem ringN (a1 a2 b1 b2 b3 D : Int) : b2 * (a1 * (b3 * b1) + D * a2 * (-b3 * b2)) + b1 * (a1 * (-b3 * b2) + a2 * (b3 * b1)) = b3 * (b1 * b1 - D * b2 * b2) * a2 := by grind
theorem ringO (q i T3 b3 : Int) : q * i * (T3 * b3) = i * b3 * (q * T3) := by grind
theorem ringP (i a3 I3 b3 : Int) : i * b3 * (a3 * I3) = b3 * (i * I3) * a3 := by grind
theorem ringQ (q i U1 I1 D U2 I2 : Int) : q * i * (U1 * I1 + D * U2 * I2) = (q * U1) * (i * I1) + D * (q * U2) * (i * I2) := by grind
theorem ringR (a1 a2 b1 b2 b3 D : Int) : (a1 * b1 + D * a2 * b2) * (b3 * b1) + D * (a1 * b2 + a2 * b1) * (-b3 * b2) = b3 * (b1 * b1 - D * b2 * b2) * a1 := by grind
theorem ringS (q i U1 I1 U2 I2 : Int) : q * i * (U1 * I2 + U2 * I1) = (q * U1) * (i * I2) + (q * U2) * (i * I1) := by grind
theorem ringT (a1 a2 b1 b2 b3 D : Int) : (a1 * b1 + D * a2 * b2) * (-b3 * b2) + (a1 * b2 + a2 * b1) * (b3 * b1) = b3 * (b1 * b1 - D * b2 * b2) * a2 := by grind
theorem ringU (a3 b3 n : Int) : (a3 * b3) * n = b3 * n * a3 := by grind
/-- the sum's product is the products' sum -/
theorem distrib {D : Int} {a b c : Int × Int × Int} (ha : Good D a) (hb : Good D b) (hc : Good D c) : timesT D a (plusT D 1 b c) = plusT D 1 (timesT D a b) (timesT D a c) := by
  have na := below_ne ha
  have nb := below_ne hb
  have nc := below_ne hc
  have gP : Good D (plusT D 1 b c) := plus_good hb hc
  have gU : Good D (timesT D a b) := times_good ha hb
  have gV : Good D (timesT D a c) := times_good ha hc
  rw [times_red ha gP, plus_red gU gV]
  obtain ⟨p1, p2, p3⟩ := red_mul (x := b.1 * c.2.2 + 1 * c.1 * b.2.2) (y := b.2.1 * c.2.2 + 1 * c.2.1 * b.2.2) (mul_ne nb nc)
  obtain ⟨u1, u2, u3⟩ := red_mul (x := a.1 * b.1 + D * a.2.1 * b.2.1) (y := a.1 * b.2.1 + a.2.1 * b.1) (mul_ne na nb)
  obtain ⟨v1, v2, v3⟩ := red_mul (x := a.1 * c.1 + D * a.2.1 * c.2.1) (y := a.1 * c.2.1 + a.2.1 * c.1) (mul_ne na nc)
  rw [← plus_red hb hc] at p1 p2 p3
  rw [← times_red ha hb] at u1 u2 u3
  rw [← times_red ha hc] at v1 v2 v3
  have sp := lsg_ne (x := b.1 * c.2.2 + 1 * c.1 * b.2.2) (y := b.2.1 * c.2.2 + 1 * c.2.1 * b.2.2) (mul_ne nb nc)
  have su := lsg_ne (x := a.1 * b.1 + D * a.2.1 * b.2.1) (y := a.1 * b.2.1 + a.2.1 * b.1) (mul_ne na nb)
  have sv := lsg_ne (x := a.1 * c.1 + D * a.2.1 * c.2.1) (y := a.1 * c.2.1 + a.2.1 * c.1) (mul_ne na nc)
  have nP := below_ne gP
  have nU := below_ne gU
  have nV := below_ne gV
  generalize lsg (b.1 * c.2.2 + 1 * c.1 * b.2.2) (b.2.1 * c.2.2 + 1 * c.2.1 * b.2.2) (b.2.2 * c.2.2) = p at *
  generalize lsg (a.1 * b.1 + D * a.2.1 * b.2.1) (a.1 * b.2.1 + a.2.1 * b.1) (a.2.2 * b.2.2) = u at *
  generalize lsg (a.1 * c.1 + D * a.2.1 * c.2.1) (a.1 * c.2.1 + a.2.1 * c.1) (a.2.2 * c.2.2) = v at *
  generalize plusT D 1 b c = P at *
  generalize timesT D a b = U at *
  generalize timesT D a c = V at *
  rw [← red_scale (k := a.2.2 * p) (mul_ne na sp) (mul_ne na nP), ← red_scale (k := u * v) (mul_ne su sv) (mul_ne nU nV)]
  have e1 : a.2.2 * p * (a.1 * P.1 + D * a.2.1 * P.2.1) = u * v * (U.1 * V.2.2 + 1 * V.1 * U.2.2) := by rw [ringA, ← p1, ← p2, ringB u v, ← u1, ← v3, ← v1, ← u3, ringC]
  have e2 : a.2.2 * p * (a.1 * P.2.1 + a.2.1 * P.1) = u * v * (U.2.1 * V.2.2 + 1 * V.2.1 * U.2.2) := by rw [ringD, ← p1, ← p2, ringB u v, ← u2, ← v3, ← v2, ← u3, ringE]
  have e3 : a.2.2 * p * (a.2.2 * P.2.2) = u * v * (U.2.2 * V.2.2) := by rw [ringF, ← p3, ringG, ← u3, ← v3, ringH]
  rw [e1, e2, e3]
/-- what is divided by comes back -/
theorem over_times {D : Int} {a b : Int × Int × Int} (h0 : 0 ≤ D) (ha : Good D a) (hb : Good D b) (hz : ¬ (b.1 = 0 ∧ b.2.1 = 0)) : timesT D (timesT D a (invT D b)) b = a := by
  have na := below_ne ha
  have nb := below_ne hb
  have nn := norm_ne h0 hb hz
  have gI := inv_good h0 hb hz
  have gQ : Good D (timesT D a (invT D b)) := times_good ha gI
  rw [times_red gQ hb]
  obtain ⟨i1, i2, i3⟩ := red_mul (x := b.2.2 * b.1) (y := -b.2.2 * b.2.1) nn
  have si := lsg_ne (x := b.2.2 * b.1) (y := -b.2.2 * b.2.1) nn
  rw [← inv_red hb] at i1 i2 i3
  have nI := below_ne gI
  obtain ⟨q1, q2, q3⟩ := red_mul (x := a.1 * (invT D b).1 + D * a.2.1 * (invT D b).2.1) (y := a.1 * (invT D b).2.1 + a.2.1 * (invT D b).1) (mul_ne na nI)
  have sq := lsg_ne (x := a.1 * (invT D b).1 + D * a.2.1 * (invT D b).2.1) (y := a.1 * (invT D b).2.1 + a.2.1 * (invT D b).1) (mul_ne na nI)
  rw [← times_red ha gI] at q1 q2 q3
  have nQ := below_ne gQ
  generalize lsg (a.1 * (invT D b).1 + D * a.2.1 * (invT D b).2.1) (a.1 * (invT D b).2.1 + a.2.1 * (invT D b).1) (a.2.2 * (invT D b).2.2) = q at *
  generalize timesT D a (invT D b) = T at *
  generalize lsg (b.2.2 * b.1) (-b.2.2 * b.2.1) (normT D b) = i at *
  generalize invT D b = I at *
  have hn : normT D b = b.1 * b.1 - D * b.2.1 * b.2.1 := rfl
  generalize normT D b = n at *
  rw [← red_scale (k := q * i) (mul_ne sq si) (mul_ne nQ nb)]
  have e1 : q * i * (T.1 * b.1 + D * T.2.1 * b.2.1) = b.2.2 * n * a.1 := by rw [ringI, ← q1, ← q2, ringJ, ← i1, ← i2, ringK, ← hn]
  have e2 : q * i * (T.1 * b.2.1 + T.2.1 * b.1) = b.2.2 * n * a.2.1 := by rw [ringL, ← q1, ← q2, ringM, ← i1, ← i2, ringN, ← hn]
  have e3 : q * i * (T.2.2 * b.2.2) = b.2.2 * n * a.2.2 := by rw [ringO, ← q3, ringP, ← i3]
  rw [e1, e2, e3, red_scale (mul_ne nb nn) na]
  exact red_self ha.1 ha.2.1
theorem times_over {D : Int} {a b : Int × Int × Int} (h0 : 0 ≤ D) (ha : Good D a) (hb : Good D b) (hz : ¬ (b.1 = 0 ∧ b.2.1 = 0)) : timesT D (timesT D a b) (invT D b) = a := by
  have na := below_ne ha
  have nb := below_ne hb
  have nn := norm_ne h0 hb hz
  have gI := inv_good h0 hb hz
  have gU : Good D (timesT D a b) := times_good ha hb
  rw [times_red gU gI]
  obtain ⟨i1, i2, i3⟩ := red_mul (x := b.2.2 * b.1) (y := -b.2.2 * b.2.1) nn
  have si := lsg_ne (x := b.2.2 * b.1) (y := -b.2.2 * b.2.1) nn
  rw [← inv_red hb] at i1 i2 i3
  have nI := below_ne gI
  obtain ⟨q1, q2, q3⟩ := red_mul (x := a.1 * b.1 + D * a.2.1 * b.2.1) (y := a.1 * b.2.1 + a.2.1 * b.1) (mul_ne na nb)
  have sq := lsg_ne (x := a.1 * b.1 + D * a.2.1 * b.2.1) (y := a.1 * b.2.1 + a.2.1 * b.1) (mul_ne na nb)
  rw [← times_red ha hb] at q1 q2 q3
  have nU := below_ne gU
  generalize lsg (a.1 * b.1 + D * a.2.1 * b.2.1) (a.1 * b.2.1 + a.2.1 * b.1) (a.2.2 * b.2.2) = q at *
  generalize timesT D a b = U at *
  generalize lsg (b.2.2 * b.1) (-b.2.2 * b.2.1) (normT D b) = i at *
  generalize invT D b = I at *
  have hn : normT D b = b.1 * b.1 - D * b.2.1 * b.2.1 := rfl
  generalize normT D b = n at *
  rw [← red_scale (k := q * i) (mul_ne sq si) (mul_ne nU nI)]
  have e1 : q * i * (U.1 * I.1 + D * U.2.1 * I.2.1) = b.2.2 * n * a.1 := by rw [ringQ, ← q1, ← q2, ← i1, ← i2, ringR, ← hn]
  have e2 : q * i * (U.1 * I.2.1 + U.2.1 * I.1) = b.2.2 * n * a.2.1 := by rw [ringS, ← q1, ← q2, ← i1, ← i2, ringT, ← hn]
  have e3 : q * i * (U.2.2 * I.2.2) = b.2.2 * n * a.2.2 := by rw [ringG, ← q3, ← i3, ringU]
  rw [e1, e2, e3, red_scale (mul_ne nb nn) na]
  exact red_self ha.1 ha.2.1
end Kx
namespace Kx
open PySem PySem.Spec PyProof.Rows L2
/-! ### sizes -/
def Sz (n : Nat) (t : Int × Int × Int) : Prop := t.1.natAbs < 2 ^ n ∧ t.2.1.natAbs < 2 ^ n ∧ t.2.2.natAbs < 2 ^ n
theorem up {x n m : Nat} (h : x < 2 ^ n) (l : n ≤ m) : x < 2 ^ m := Nat.lt_of_lt_of_le h (Nat.pow_le_pow_right (by decide) l)
theorem Sz.up {n m : Nat} {t : Int × Int × Int} (h : Sz n t) (l : n ≤ m) : Sz m t := ⟨Kx.up h.1 l, Kx.up h.2.1 l, Kx.up h.2.2 l⟩
theorem sz_add {x y : Int} {k : Nat} (hx : x.natAbs < 2 ^ k) (hy : y.natAbs < 2 ^ k) : (x + y).natAbs < 2 ^ (k + 1) := by
  rw [Nat.pow_succ]
  omega
theorem sz_sub {x y : Int} {k : Nat} (hx : x.natAbs < 2 ^ k) (hy : y.natAbs < 2 ^ k) : (x - y).natAbs < 2 ^ (k + 1) := by
  rw [Nat.pow_succ]
  omega
theorem bnd {x : Int} {n : Nat} (h : x.natAbs < 2 ^ n) (l : n ≤ 2000) : x.natAbs < 2 ^ 2000 := up h l
theorem okm {i j : Int} {n m : Nat} (hi : i.natAbs < 2 ^ n) (hj : j.natAbs < 2 ^ m) (ln : n ≤ 2000) (lm : m ≤ 2000) : IntMulOk i j := by
  have h1 := bnd hi ln
  have h2 := bnd hj lm
  exact cmw (by omega) (by omega) (by omega) (by omega)
theorem red_sz {x y b : Int} {n : Nat} (hb : b ≠ 0) (h1 : x.natAbs < 2 ^ n) (h2 : y.natAbs < 2 ^ n) (h3 : b.natAbs < 2 ^ n) : Sz n (red x y b) := by
  obtain ⟨p, q, r⟩ := red_size (x := x) (y := y) hb
  exact ⟨Nat.lt_of_le_of_lt p h1, Nat.lt_of_le_of_lt q h2, Nat.lt_of_le_of_lt r h3⟩
section
variable {D s : Int} {t u : Int × Int × Int} {n m : Nat}
theorem one_mul_sz {s z : Int} {k : Nat} (hs : s = 1 ∨ s = -1) (hz : z.natAbs < 2 ^ k) : (s * z).natAbs < 2 ^ k := by
  rcases hs with rfl | rfl
  · rw [Int.one_mul]; exact hz
  · rw [Int.neg_mul, Int.one_mul, Int.natAbs_neg]; exact hz
theorem plus_sz (hs : s = 1 ∨ s = -1) (ht : Good D t) (hu : Good D u) (zt : Sz n t) (zu : Sz m u) : Sz (n + m + 1) (plusT D s t u) := by
  rw [plus_red ht hu]
  refine red_sz (mul_ne (below_ne ht) (below_ne hu)) (sz_add (wide_lt zt.1 zu.2.2) ?_) (sz_add (wide_lt zt.2.1 zu.2.2) ?_) (Kx.up (wide_lt zt.2.2 zu.2.2) (by omega))
  · rw [Nat.add_comm n m]; exact wide_lt (one_mul_sz hs zu.1) zt.2.2
  · rw [Nat.add_comm n m]; exact wide_lt (one_mul_sz hs zu.2.1) zt.2.2
theorem dmul_sz {k : Nat} (h0 : D.natAbs < 2 ^ 200) {x y : Int} (hx : x.natAbs < 2 ^ n) (hy : y.natAbs < 2 ^ m) (l : 200 + n + m ≤ k) : (D * x * y).natAbs < 2 ^ k := Kx.up (wide_lt (wide_lt h0 hx) hy) l
theorem times_sz (h0 : D.natAbs < 2 ^ 200) (ht : Good D t) (hu : Good D u) (zt : Sz n t) (zu : Sz m u) : Sz (n + m + 201) (timesT D t u) := by
  rw [times_red ht hu]
  refine red_sz (mul_ne (below_ne ht) (below_ne hu)) (sz_add (Kx.up (wide_lt zt.1 zu.1) (by omega)) (dmul_sz h0 zt.2.1 zu.2.1 (by omega))) (Kx.up (sz_add (wide_lt zt.1 zu.2.1) (wide_lt zt.2.1 zu.1)) (by omega)) (Kx.up (wide_lt zt.2.2 zu.2.2) (by omega))
theorem norm_sz (h0 : D.natAbs < 2 ^ 200) (zu : Sz m u) : (normT D u).natAbs < 2 ^ (2 * m + 201) := by
  unfold normT
  exact sz_sub (Kx.up (wide_lt zu.1 zu.1) (by omega)) (dmul_sz h0 zu.2.1 zu.2.1 (by omega))
theorem inv_sz (h0 : 0 ≤ D) (h1 : D.natAbs < 2 ^ 200) (hu : Good D u) (hz : ¬ (u.1 = 0 ∧ u.2.1 = 0)) (zu : Sz m u) : Sz (2 * m + 201) (invT D u) := by
  rw [inv_red hu]
  have hn : (-u.2.2).natAbs < 2 ^ m := by rw [Int.natAbs_neg]; exact zu.2.2
  exact red_sz (norm_ne h0 hu hz) (Kx.up (wide_lt zu.2.2 zu.1) (by omega)) (Kx.up (wide_lt hn zu.2.1) (by omega)) (norm_sz h1 zu)
end
/-! ### promises -/
def spReduced : Sp := fun vs H Q _ => ∃ D x y b : Int, vs = [.int D, .int x, .int y, .int b] ∧ 0 ≤ D ∧ D < 2 ^ 1000 ∧ x.natAbs < 2 ^ 2000 ∧ y.natAbs < 2 ^ 2000 ∧ b.natAbs < 2 ^ 2000 ∧ b ≠ 0 ∧ ∀ (p : Addr) (H' : Hp), H p = none → Same H H' → H' p = some (.tup (rootV (least D x y b))) → Q (.ref p) H'
/-- two root numbers at hand -/
structure Two (D : Int) (H : Hp) (a b : Addr) (t u : Int × Int × Int) (n m : Nat) : Prop where
  M : Meas D
  lt : D < 2 ^ 200
  ra : RootAt D H a t
  rb : RootAt D H b u
  za : Sz n t
  zb : Sz m u
theorem Two.same {D : Int} {H H' : Hp} {a b : Addr} {t u : Int × Int × Int} {n m : Nat} (h : Two D H a b t u n m) (s : Same H H') : Two D H' a b t u n m := ⟨h.M, h.lt, h.ra.same s, h.rb.same s, h.za, h.zb⟩
theorem Two.dn {D : Int} {H : Hp} {a b : Addr} {t u : Int × Int × Int} {n m : Nat} (h : Two D H a b t u n m) : 0 ≤ D ∧ D.natAbs < 2 ^ 200 := by
  have h1 := h.M.1
  have h2 := h.lt
  constructor <;> omega
def spTotal : Sp := fun vs H Q _ => ∃ (D s : Int) (a b : Addr) (t u : Int × Int × Int) (n m : Nat), vs = [.int D, .ref a, .ref b, .int s] ∧ (s = 1 ∨ s = -1) ∧ Two D H a b t u n m ∧ n + m ≤ 1700 ∧ ∀ (p : Addr) (H' : Hp), H p = none → Same H H' → RootAt D H' p (plusT D s t u) → Q (.ref p) H'
def spPlus (s : Int) : Sp := fun vs H Q _ => ∃ (D : Int) (a b : Addr) (t u : Int × Int × Int) (n m : Nat), vs = [.int D, .ref a, .ref b] ∧ Two D H a b t u n m ∧ n + m ≤ 1700 ∧ ∀ (p : Addr) (H' : Hp), H p = none → Same H H' → RootAt D H' p (plusT D s t u) → Q (.ref p) H'
def spTimes : Sp := fun vs H Q _ => ∃ (D : Int) (a b : Addr) (t u : Int × Int × Int) (n m : Nat), vs = [.int D, .ref a, .ref b] ∧ Two D H a b t u n m ∧ n + m ≤ 1700 ∧ ∀ (p : Addr) (H' : Hp), H p = none → Same H H' → RootAt D H' p (timesT D t u) → Q (.ref p) H'
def spOver : Sp := fun vs H Q _ => ∃ (D : Int) (a b : Addr) (t u : Int × Int × Int) (n m : Nat), vs = [.int D, .ref a, .ref b] ∧ Two D H a b t u n m ∧ n + 2 * m ≤ 1450 ∧ ¬ (u.1 = 0 ∧ u.2.1 = 0) ∧ ∀ (p : Addr) (H' : Hp), H p = none → Same H H' → RootAt D H' p (timesT D t (invT D u)) → Q (.ref p) H'
/-- the law's own sums: with the sign as the last argument -/
def spLawPlus : Sp := spTotal
/-! ### repr -/
mutual
def cost : PyData → Nat
  | .none => 4
  | .bool _ => 5
  | .int _ => 1925
  | .str x => (reprText x).length
  | .list xs => costAll xs + 3
  | .tuple xs => costAll xs + 3
  | .dict _ => 0
def costAll : List PyData → Nat
  | [] => 0
  | x :: xs => cost x + 2 + costAll xs
end
theorem listText_le : ∀ ts : List Str, (listText ts).length ≤ piled ts + 3
  | [] => by decide
  | t :: ts => by
    unfold listText
    show (textFrom 1 (("[" : Str) ++ t) ts ++ ("]" : Str)).length ≤ _
    have h := textFrom_length_pos ts 1 (("[" : Str) ++ t) (by decide)
    have e1 : ∀ a b : Str, (a ++ b).length = a.length + b.length := fun a b => Str.length_append a b
    rw [e1, h, e1, piled_cons]
    have e2 : ("[" : Str).length = 1 := by decide
    have e3 : ("]" : Str).length = 1 := by decide
    omega
theorem tupleText_le (ts : List Str) : (tupleText ts).length ≤ piled ts + 3 := by
  unfold tupleText
  have e1 : ∀ a b : Str, (a ++ b).length = a.length + b.length := fun a b => Str.length_append a b
  rw [e1, e1]
  have e2 : ("(" : Str).length = 1 := by decide
  have hj : (Str.join ", " ts).length ≤ piled ts := by
    cases ts with
    | nil => decide
    | cons t r =>
      have := join_length_add (t :: r) (by simp)
      omega
  have e3 : ∀ c : Bool, ((if c then ",)" else ")" : String) : Str).length ≤ 2 := fun c => by cases c <;> decide
  have := e3 (ts.length == 1)
  omega
mutual
theorem cost_ok : ∀ d : PyData, d.showable = true → d.hasDict = false → d.shown.length ≤ cost d
  | .none, _, _ => by simp only [PyData.shown, cost]; decide
  | .bool b, _, _ => by cases b <;> simp only [PyData.shown, cost] <;> decide
  | .int i, h, _ => by
    simp only [PyData.shown, cost]
    have h2 : i.natAbs.log2 < 1920 := by simpa [PyData.showable] using h
    exact Nat.le_trans (int_text_len_1921 h2) (by decide)
  | .str x, _, _ => by simp only [PyData.shown, cost]; exact Nat.le_refl _
  | .list xs, h, hd => by
    simp only [PyData.shown, cost]
    have := costAll_ok xs (by simpa [PyData.showable] using h) (by simpa [PyData.hasDict] using hd)
    have := listText_le (PyData.shownAll xs)
    omega
  | .tuple xs, h, hd => by
    simp only [PyData.shown, cost]
    have := costAll_ok xs (by simpa [PyData.showable] using h) (by simpa [PyData.hasDict] using hd)
    have := tupleText_le (PyData.shownAll xs)
    omega
  | .dict _, _, h => by simp [PyData.hasDict] at h
theorem costAll_ok : ∀ ds : List PyData, PyData.showableAll ds = true → PyData.hasDictAll ds = false → piled (PyData.shownAll ds) ≤ costAll ds
  | [], _, _ => by simp only [PyData.shownAll, costAll]; decide
  | d :: ds, h, hd => by
    have h1 : d.showable = true ∧ PyData.showableAll ds = true := by simpa [PyData.showableAll] using h
    have h2 : d.hasDict = false ∧ PyData.hasDictAll ds = false := by simpa [PyData.hasDictAll] using hd
    simp only [PyData.shownAll, costAll, piled_cons]
    have := cost_ok d h1.1 h2.1
    have := costAll_ok ds h1.2 h2.2
    omega
end
/-- data whose repr may be asked for -/
structure Rp (K : PySem.W.Frag) (H : Hp) (x : V) (d : PyData) : Prop where
  dp : Dp K H x d
  sh : d.showable = true
  nd : d.hasDict = false
  de : d.depth ≤ 60
  co : cost d ≤ 16000000
theorem cr_reprR {X : Cx} (gd : X.A.guards = some []) (hu : X.A.units + 64 < cLine) : CallR X (.builtin "repr") (fun vs H Q => ∃ (x : V) (d : PyData), vs = [x] ∧ Rp X.K H x d ∧ Q (.str d.shown) H) := by
  intro pins s σ H vs us Q I r h
  obtain ⟨x, d, e, R, q⟩ := h
  exact cr_reprD gd hu pins s σ H vs us Q I r ⟨x, d, e, R.dp, R.sh, R.nd, R.de, Nat.le_trans (cost_ok d R.sh R.nd) (Nat.le_trans R.co (by decide)), q⟩
def rootD (t : Int × Int × Int) : PyData := .tuple [.int t.1, .int t.2.1, .int t.2.2]
theorem dp_root {K : PySem.W.Frag} {H : Hp} {a : Addr} {t : Int × Int × Int} (h : H a = some (.tup (rootV t))) : Dp K H (.ref a) (rootD t) := .tup (SqT.of h) (.cons (.int _) (.cons (.int _) (.cons (.int _) .nil)))
theorem log_sz {x : Int} {n : Nat} (h : x.natAbs < 2 ^ n) (l : n ≤ 1900) : x.natAbs.log2 < 1920 := Nat.lt_of_lt_of_le (PySem.Flt.log2_lt_of (by decide) (up h l)) (by decide)
theorem root_show {t : Int × Int × Int} {n : Nat} (z : Sz n t) (l : n ≤ 1900) : (rootD t).showable = true := by
  simp only [rootD, PyData.showable, PyData.showableAll, log_sz z.1 l, log_sz z.2.1 l, log_sz z.2.2 l, decide_true, Bool.and_self]
theorem shaped_root (t : Int × Int × Int) : SeqAt.shaped (rootD t) = true := rfl
theorem ne_roots {K : PySem.W.Frag} {H : Hp} {a b : Addr} {t u : Int × Int × Int} {Q : VK} (h1 : H a = some (.tup (rootV t))) (h2 : H b = some (.tup (rootV u))) (e : t = u) (q : Q (.bl false) H) : rNeD K (.ref a) (.ref b) H Q := by
  subst e
  exact ⟨_, _, dp_root h1, dp_root h2, rfl, rfl, by rw [eqv_same rfl]; exact q⟩
theorem eq_roots {K : PySem.W.Frag} {H : Hp} {a b : Addr} {t u : Int × Int × Int} {Q : VK} (h1 : H a = some (.tup (rootV t))) (h2 : H b = some (.tup (rootV u))) (e : t = u) (q : Q (.bl true) H) : rEqD K (.ref a) (.ref b) H Q := by
  subst e
  exact ⟨_, _, dp_root h1, dp_root h2, rfl, rfl, by rw [eqv_same rfl]; exact q⟩
theorem rp_roots3 {K : PySem.W.Frag} {H : Hp} {L a b c : Addr} {t u v : Int × Int × Int} {n m l : Nat} (hL : H L = some (.lst [.ref a, .ref b, .ref c])) (h1 : H a = some (.tup (rootV t))) (h2 : H b = some (.tup (rootV u))) (h3 : H c = some (.tup (rootV v)))
    (z1 : Sz n t) (z2 : Sz m u) (z3 : Sz l v) (l1 : n ≤ 1900) (l2 : m ≤ 1900) (l3 : l ≤ 1900) : Rp K H (.ref L) (.list [rootD t, rootD u, rootD v]) where
  dp := .lst (SqL.of hL) (.cons (dp_root h1) (.cons (dp_root h2) (.cons (dp_root h3) .nil)))
  sh := by
    show (PyData.showableAll [rootD t, rootD u, rootD v]) = true
    simp only [PyData.showableAll, root_show z1 l1, root_show z2 l2, root_show z3 l3, Bool.and_self]
  nd := rfl
  de := Nat.le_of_ble_eq_true rfl
  co := Nat.le_of_ble_eq_true rfl
theorem GenAt.ne {H : Hp} {g a : Addr} {k : Nat} (G : GenAt H g k) {xs : List V} (h : H a = some (.tup xs)) : a ≠ g := fun z => by
  obtain ⟨_, _, _, e, _⟩ := G
  rw [z, e] at h
  cases h
theorem GenAt.nn {H : Hp} {g a : Addr} {k : Nat} (G : GenAt H g k) (h : H a = none) : a ≠ g := fun z => by
  obtain ⟨_, _, _, e, _⟩ := G
  rw [z, e] at h
  cases h
theorem GenAt.upd {H : Hp} {g d : Addr} {k : Nat} {o : HO} (G : GenAt H g k) (h : d ≠ g) : GenAt (L2.upd H d o) g k := by
  obtain ⟨a, b, c, e, r⟩ := G
  exact ⟨a, b, c, by rw [upd_ne (Ne.symm h)]; exact e, r⟩
theorem Keep.root {D : Int} {H H' : Hp} {g a : Addr} {k : Nat} {t : Int × Int × Int} (s : Keep g H H') (G : GenAt H g k) (r : RootAt D H a t) : RootAt D H' a t := ⟨s _ _ (G.ne r.1) r.1, r.2⟩
theorem RootAt.upd {D : Int} {H : Hp} {d a : Addr} {t : Int × Int × Int} {xs : List V} {o : HO} (r : RootAt D H a t) (h : H d = some (.lst xs)) : RootAt D (L2.upd H d o) a t := by
  refine ⟨?_, r.2⟩
  rw [upd_ne (fun z => ?_)]
  · exact r.1
  · have := r.1
    rw [z, h] at this
    cases this
theorem Keep.upd {H H' : Hp} {g d : Addr} {o : HO} (s : Keep g H H') (h : H d = none) : Keep g H (L2.upd H' d o) := fun b u hb e => by
  rw [upd_ne (ne_of_none e h)]
  exact s b u hb e
theorem rt_half {D : Int} (h0 : 0 ≤ D) (h1 : D < 2 ^ 200) : rt D < 2 ^ 100 := by
  obtain ⟨s0, s1, s2⟩ := rt_spec h0
  by_cases h : rt D < 2 ^ 100
  · exact h
  · have := sq_mono (x := 2 ^ 100) (y := rt D) (by decide) (by omega)
    omega
theorem least_sz {D x y b : Int} (h0 : 0 ≤ D) (h1 : D < 2 ^ 200) (hx : x.natAbs < 2 ^ 150) (hy : y.natAbs < 2 ^ 150) (hb : b.natAbs < 2 ^ 150) (hb0 : b ≠ 0) : Sz 251 (least D x y b) := by
  obtain ⟨r0, r1⟩ := rt_le h0
  have r2 := rt_half h0 h1
  have w1 : (y * rt D).natAbs < 2 ^ (150 + 100) := wide_lt hy (by omega)
  simp only [Nat.reduceAdd] at w1
  unfold least
  split
  · exact red_sz hb0 (sz_add (up hx (by decide)) w1) (by decide) (up hb (by decide))
  · exact red_sz hb0 (up hx (by decide)) (up hy (by decide)) (up hb (by decide))
theorem Good.le {D : Int} {t : Int × Int × Int} (h : Good D t) : t = least D t.1 t.2.1 t.2.2 := (least_self h).symm
theorem two_new {D : Int} {H : Hp} {p q : Addr} {t u : Int × Int × Int} (M : Meas D) (l : D < 2 ^ 200) (n1 : H p = none) (n2 : L2.upd H p (.tup (rootV t)) q = none) (gt : Good D t) (gu : Good D u) (zt : Sz 10 t) (zu : Sz 10 u) :
    Two D (L2.upd (L2.upd H p (.tup (rootV t))) q (.tup (rootV u))) p q t u 10 10 :=
  ⟨M, l, ⟨by rw [upd_ne (ne_new n2)]; exact upd_same, gt⟩, ⟨upd_same, gu⟩, zt, zu⟩
end Kx

set_option Elab.async false
set_option linter.all false
set_option maxRecDepth 100000
set_option maxHeartbeats 4000000
set_option exponentiation.threshold 4000
/-! Odd values: what they are, and that they stay. -/
namespace Kx
open PySem PySem.Spec PyProof.Rows L2
mutual
theorem dp_same {K : PySem.W.Frag} {H H' : Hp} (s : Same H H') : ∀ (d : PyData) (v : V), Dp K H v d → Dp K H' v d
  | .none, _, h => by cases h; exact .non
  | .bool _, _, h => by cases h; exact .bl _
  | .int _, _, h => by cases h; exact .int _
  | .str _, _, h => by cases h; exact .str _
  | .list ds, _, h => by
    cases h with
    | lst q r => exact .lst (SqL.ext q s) (dpAll_same s ds _ r)
  | .tuple ds, _, h => by
    cases h with
    | tup q r => exact .tup (SqT.ext q s) (dpAll_same s ds _ r)
  | .dict _, _, h => by cases h
theorem dpAll_same {K : PySem.W.Frag} {H H' : Hp} (s : Same H H') : ∀ (ds : List PyData) (vs : List V), DpAll K H vs ds → DpAll K H' vs ds
  | [], _, h => by cases h; exact .nil
  | d :: ds, _, h => by
    cases h with
    | cons q r => exact .cons (dp_same s d _ q) (dpAll_same s ds _ r)
end
theorem Rp.same {K : PySem.W.Frag} {H H' : Hp} {x : V} {d : PyData} (h : Rp K H x d) (s : Same H H') : Rp K H' x d := ⟨dp_same s _ _ h.dp, h.sh, h.nd, h.de, h.co⟩
theorem OkItem.at {H : Hp} {a : Addr} (h : OkItem H (.ref a)) : ∃ o, H a = some o := by
  obtain ⟨t, ht⟩ := h
  have h2 : (match H a with | some (.lst _) => some "list" | some (.tup _) => some "tuple" | some (.dK _) => some "dict" | _ => none) = some t := ht
  cases e : H a with
  | none => rw [e] at h2; cases h2
  | some o => exact ⟨o, rfl⟩
theorem OkV.same {H H' : Hp} {x : V} (h : OkV H x) (s : Same H H') : OkV H' x := by
  refine ⟨h.1.same s, fun a xs e1 e2 y hy => ?_⟩
  subst e1
  obtain ⟨o, ho⟩ := h.1.at
  have := s _ _ ho
  rw [e2] at this
  cases this
  exact (h.2 a xs rfl ho y hy).same s
def Flat (d : PyData) : Prop := d.canLay0 = true ∧ d.depth ≤ 20
theorem flat_lay : ∀ {ds : List PyData}, (∀ d ∈ ds, Flat d) → PyData.canLayAll0 ds = true ∧ PyData.depthAll ds ≤ 20
  | [], _ => ⟨rfl, by simp only [PyData.depthAll]; omega⟩
  | d :: ds, h => by
    obtain ⟨h1, h2⟩ := h d (List.mem_cons_self ..)
    obtain ⟨h3, h4⟩ := flat_lay (ds := ds) fun e he => h e (List.mem_cons_of_mem _ he)
    refine ⟨?_, ?_⟩
    · simp only [PyData.canLayAll0, h1, h3, Bool.and_self]
    · simp only [PyData.depthAll]
      omega
theorem flat_shaped {ds : List PyData} (h : ∀ d ∈ ds, Flat d) : SeqAt.shaped (.list ds) = true := by
  obtain ⟨h1, h2⟩ := flat_lay h
  have e1 : PyData.canLay0 (.list ds) = true := by simp only [PyData.canLay0]; exact h1
  have e2 : PyData.depth (.list ds) ≤ 64 := by simp only [PyData.depth]; omega
  unfold SeqAt.shaped
  rw [e1, decide_eq_true e2]
  rfl
theorem dp_filter {K : PySem.W.Frag} {H : Hp} {f : V → Bool} : ∀ {xs : List V} {ds : List PyData}, DpAll K H xs ds → (∀ d ∈ ds, Flat d) → ∃ es, DpAll K H (xs.filter f) es ∧ ∀ d ∈ es, Flat d
  | [], _, _, _ => ⟨[], .nil, fun d hd => absurd hd List.not_mem_nil⟩
  | x :: xs, _, h, hf => by
    cases h with
    | @cons _ _ d ds q r =>
      obtain ⟨es, h1, h2⟩ := dp_filter (f := f) r fun e he => hf e (List.mem_cons_of_mem _ he)
      cases hx : f x with
      | true =>
        rw [List.filter_cons_of_pos hx]
        refine ⟨d :: es, .cons q h1, fun e he => ?_⟩
        rcases List.mem_cons.mp he with rfl | he
        · exact hf e (List.mem_cons_self ..)
        · exact h2 e he
      | false =>
        rw [List.filter_cons_of_neg (by rw [hx]; decide)]
        exact ⟨es, h1, h2⟩
theorem dpAll_nil {K : PySem.W.Frag} {H : Hp} {xs : List V} {ds : List PyData} (h : DpAll K H xs ds) : xs.isEmpty = ds.isEmpty := by
  cases h <;> rfl
/-- a value that is asked for, with its data -/
structure Val (K : PySem.W.Frag) (H : Hp) (x : V) (d : PyData) : Prop where
  rp : Rp K H x d
  ok : OkV H x
  it : ∀ a xs, x = .ref a → H a = some (.tup xs) → ∃ ds, DpAll K H xs ds ∧ ∀ d ∈ ds, Flat d
theorem Val.same {K : PySem.W.Frag} {H H' : Hp} {x : V} {d : PyData} (h : Val K H x d) (s : Same H H') : Val K H' x d := by
  refine ⟨h.rp.same s, h.ok.same s, fun a xs e1 e2 => ?_⟩
  subst e1
  obtain ⟨o, ho⟩ := h.ok.1.at
  have := s _ _ ho
  rw [e2] at this
  cases this
  obtain ⟨ds, h1, h2⟩ := h.it a xs rfl ho
  exact ⟨ds, dpAll_same s _ _ h1, h2⟩
theorem all_filter (f : V → Bool) : ∀ xs : List V, (xs.filter fun x => !f x).isEmpty = xs.all f
  | [] => rfl
  | x :: xs => by
    cases h : f x with
    | true => rw [List.filter_cons_of_neg (by rw [h]; decide), List.all_cons, h, Bool.true_and, all_filter f xs]
    | false => rw [List.filter_cons_of_pos (by rw [h]; rfl), List.all_cons, h]; rfl
theorem eqv_nil (es : List PyData) : PyData.eqv (.list es) (.list []) = es.isEmpty := by cases es <;> rfl
/-- a list that holds what is not let is empty exactly if all is let -/
theorem ne_empty {K : PySem.W.Frag} {H : Hp} {L E : Addr} {xs : List V} {ds : List PyData} {f : V → Bool} {Q : VK} (hL : H L = some (.lst (xs.filter fun x => !f x))) (hE : H E = some (.lst [])) (hd : DpAll K H xs ds) (hf : ∀ d ∈ ds, Flat d) (q : Q (.bl (!xs.all f)) H) : rNeD K (.ref L) (.ref E) H Q := by
  obtain ⟨es, h1, h2⟩ := dp_filter (f := fun x => !f x) hd hf
  refine ⟨.list es, .list [], .lst (SqL.of hL) h1, .lst (SqL.of hE) .nil, flat_shaped h2, rfl, ?_⟩
  rw [eqv_nil, ← dpAll_nil h1, all_filter]
  exact q
def spLawIsRoot (K : PySem.W.Frag) : Sp := fun vs H Q _ => ∃ (D : Int) (x : V) (d : PyData), vs = [.int D, x] ∧ 0 ≤ D ∧ D < 2 ^ 2000 ∧ Val K H x d ∧ ∀ H', Same H H' → Q (.bl (rootB D H x)) H'
def spIsRoot : Sp := fun vs H Q _ => ∃ (D : Int) (x : V), vs = [.int D, x] ∧ Meas D ∧ D < 2 ^ 2000 ∧ OkV H x ∧ ∀ H', Same H H' → Q (.bl (rootB D H x)) H'
/-- where all three are numbers, the last one not 0 -/
def spRootNumber0 : Sp := fun vs H Q _ => ∃ D x y b : Int, vs = [.int D, .int x, .int y, .int b] ∧ Meas D ∧ D < 2 ^ 1000 ∧ x.natAbs < 2 ^ 2000 ∧ y.natAbs < 2 ^ 2000 ∧ b.natAbs < 2 ^ 2000 ∧ b ≠ 0 ∧ ∀ (p : Addr) (H' : Hp), H p = none → Same H H' → H' p = some (.tup (rootV (least D x y b))) → Q (.ref p) H'
/-! ### values made of plain items -/
structure It (K : PySem.W.Frag) (H : Hp) (v : V) (d : PyData) : Prop where
  dp : Dp K H v d
  sh : d.showable = true
  nd : d.hasDict = false
  de : d.depth ≤ 10
  co : cost d ≤ 100000
  la : d.canLay0 = true
  ok : OkItem H v
inductive ItAll (K : PySem.W.Frag) (H : Hp) : List V → List PyData → Prop
  | nil : ItAll K H [] []
  | cons {v : V} {d : PyData} {vs : List V} {ds : List PyData} : It K H v d → ItAll K H vs ds → ItAll K H (v :: vs) (d :: ds)
section
variable {K : PySem.W.Frag} {H : Hp}
theorem It.int {i : Int} {n : Nat} (h : i.natAbs < 2 ^ n) (l : n ≤ 1900) : It K H (.int i) (.int i) :=
  ⟨.int i, by simp only [PyData.showable, log_sz h l, decide_true], rfl, Nat.le_of_ble_eq_true rfl, Nat.le_of_ble_eq_true rfl, rfl, ⟨"int", rfl⟩⟩
theorem It.bl {b : Bool} : It K H (.bl b) (.bool b) := ⟨.bl b, rfl, rfl, Nat.le_of_ble_eq_true rfl, Nat.le_of_ble_eq_true rfl, rfl, ⟨"bool", rfl⟩⟩
theorem It.non : It K H .non .none := ⟨.non, rfl, rfl, Nat.le_of_ble_eq_true rfl, Nat.le_of_ble_eq_true rfl, rfl, ⟨"NoneType", rfl⟩⟩
theorem It.str {x : Str} (h1 : (PyData.str x).showable = true) (h2 : cost (.str x) ≤ 100000) (h3 : (PyData.str x).canLay0 = true) : It K H (.str x) (.str x) := ⟨.str x, h1, rfl, Nat.le_of_ble_eq_true rfl, h2, h3, ⟨"str", rfl⟩⟩
theorem itAll_facts : ∀ {vs : List V} {ds : List PyData}, ItAll K H vs ds → DpAll K H vs ds ∧ PyData.showableAll ds = true ∧ PyData.hasDictAll ds = false ∧ PyData.depthAll ds ≤ 10 ∧ costAll ds ≤ 100002 * vs.length ∧ PyData.canLayAll0 ds = true ∧ (∀ v ∈ vs, OkItem H v) ∧ ∀ d ∈ ds, Flat d
  | [], _, h => by
    cases h
    exact ⟨.nil, rfl, rfl, by simp only [PyData.depthAll]; omega, by simp only [costAll]; omega, rfl, fun v hv => absurd hv List.not_mem_nil, fun v hv => absurd hv List.not_mem_nil⟩
  | v :: vs, _, h => by
    cases h with
    | cons q r =>
      obtain ⟨h1, h2, h3, h4, h5, h6, h7, h8⟩ := itAll_facts r
      have a1 := q.de
      have a2 := q.co
      refine ⟨.cons q.dp h1, ?_, ?_, ?_, ?_, ?_, ?_, ?_⟩
      · simp only [PyData.showableAll, q.sh, h2, Bool.and_self]
      · simp only [PyData.hasDictAll, q.nd, h3, Bool.or_self]
      · simp only [PyData.depthAll]; omega
      · simp only [costAll, List.length_cons]; omega
      · simp only [PyData.canLayAll0, q.la, h6, Bool.and_self]
      · intro x hx
        rcases List.mem_cons.mp hx with rfl | hx
        · exact q.ok
        · exact h7 x hx
      · intro x hx
        rcases List.mem_cons.mp hx with rfl | hx
        · exact ⟨q.la, by omega⟩
        · exact h8 x hx
theorem val_tup {p : Addr} {xs : List V} {ds : List PyData} (h : H p = some (.tup xs)) (hi : ItAll K H xs ds) (hl : xs.length ≤ 100) : Val K H (.ref p) (.tuple ds) := by
  obtain ⟨h1, h2, h3, h4, h5, h6, h7, h8⟩ := itAll_facts hi
  refine ⟨⟨.tup (SqT.of h) h1, ?_, ?_, ?_, ?_⟩, ⟨⟨"tuple", tyS_tup h⟩, fun a ys e1 e2 y hy => ?_⟩, fun a ys e1 e2 => ?_⟩
  · simp only [PyData.showable]; exact h2
  · simp only [PyData.hasDict]; exact h3
  · simp only [PyData.depth]; omega
  · simp only [cost]; omega
  · cases e1
    rw [h] at e2
    cases e2
    exact h7 y hy
  · cases e1
    rw [h] at e2
    cases e2
    exact ⟨ds, h1, h8⟩
theorem tyS_lst {a : Addr} {xs : List V} (h : H a = some (.lst xs)) : tyS H (.ref a) = some "list" := by
  show (match H a with | some (.lst _) => some "list" | some (.tup _) => some "tuple" | some (.dK _) => some "dict" | _ => none) = some "list"
  rw [h]
theorem val_lst {p : Addr} {xs : List V} {ds : List PyData} (h : H p = some (.lst xs)) (hi : ItAll K H xs ds) (hl : xs.length ≤ 100) : Val K H (.ref p) (.list ds) := by
  obtain ⟨h1, h2, h3, h4, h5, h6, h7, h8⟩ := itAll_facts hi
  refine ⟨⟨.lst (SqL.of h) h1, ?_, ?_, ?_, ?_⟩, ⟨⟨"list", tyS_lst h⟩, fun a ys e1 e2 y hy => ?_⟩, fun a ys e1 e2 => ?_⟩
  · simp only [PyData.showable]; exact h2
  · simp only [PyData.hasDict]; exact h3
  · simp only [PyData.depth]; omega
  · simp only [cost]; omega
  · cases e1
    rw [h] at e2
    cases e2
  · cases e1
    rw [h] at e2
    cases e2
/-- a list of one int as an item -/
theorem It.lst1 {p : Addr} {i : Int} {n : Nat} (h : H p = some (.lst [.int i])) (hi : i.natAbs < 2 ^ n) (l : n ≤ 1900) : It K H (.ref p) (.list [.int i]) :=
  ⟨.lst (SqL.of h) (.cons (.int _) .nil), by simp only [PyData.showable, PyData.showableAll, log_sz hi l, decide_true, Bool.and_self], rfl, Nat.le_of_ble_eq_true rfl, Nat.le_of_ble_eq_true rfl, rfl, ⟨"list", tyS_lst h⟩⟩
theorem val_root {D : Int} {p : Addr} {t : Int × Int × Int} {n : Nat} (h : RootAt D H p t) (z : Sz n t) (l : n ≤ 1900) : Val K H (.ref p) (rootD t) := val_tup h.1 (.cons (.int z.1 l) (.cons (.int z.2.1 l) (.cons (.int z.2.2 l) .nil))) (Nat.le_of_ble_eq_true rfl)
end
theorem wholesB_same {H H' : Hp} {m : Int} {x : V} (s : Same H H') (h : OkItem H x) : wholesB H' m x = wholesB H m x := by
  cases x with
  | ref a =>
    obtain ⟨o, ho⟩ := h.at
    unfold wholesB
    simp only [ho, s _ _ ho]
  | _ => rfl
theorem rootB_same {D : Int} {H H' : Hp} {x : V} (s : Same H H') (h : OkItem H x) : rootB D H' x = rootB D H x := by
  unfold rootB
  rw [wholesB_same s h]
  cases x with
  | ref a =>
    obtain ⟨o, ho⟩ := h.at
    simp only [ho, s _ _ ho]
  | _ => rfl
theorem rp_bl {K : PySem.W.Frag} {H : Hp} {b : Bool} : Rp K H (.bl b) (.bool b) := ⟨.bl b, rfl, rfl, Nat.le_of_ble_eq_true rfl, Nat.le_of_ble_eq_true rfl⟩
theorem rp_root {K : PySem.W.Frag} {D : Int} {H : Hp} {a : Addr} {t : Int × Int × Int} {n : Nat} (h : RootAt D H a t) (z : Sz n t) (l : n ≤ 1900) : Rp K H (.ref a) (rootD t) := (val_root h z l).rp
theorem okV_of {H : Hp} {x : V} {t : String} (h : tyS H x = some t) (hn : t ≠ "tuple") : OkV H x := ⟨⟨t, h⟩, fun a xs e1 e2 => by
  subst e1
  rw [tyS_tup e2] at h
  exact absurd (Option.some.inj h).symm hn⟩
theorem okV_tup0 {H : Hp} {a : Addr} (h : H a = some (.tup [])) : OkV H (.ref a) := ⟨⟨"tuple", tyS_tup h⟩, fun b xs e1 e2 y hy => by
  cases e1
  rw [h] at e2
  cases e2
  exact absurd hy List.not_mem_nil⟩
theorem tyS_dK {H : Hp} {a : Addr} {kvs : List (Key × V)} (h : H a = some (.dK kvs)) : tyS H (.ref a) = some "dict" := by
  show (match H a with | some (.lst _) => some "list" | some (.tup _) => some "tuple" | some (.dK _) => some "dict" | _ => none) = some "dict"
  rw [h]
theorem rootB_of {D : Int} {H : Hp} {x : V} {t : String} (h : tyS H x = some t) (hn : t ≠ "tuple") : rootB D H x = false := rootB_not (wholes_not h hn)
theorem rootB_tup0 {D : Int} {H : Hp} {a : Addr} (h : H a = some (.tup [])) : rootB D H (.ref a) = false := rootB_not (by rw [wholes_tup h]; rfl)
/-- the empty list beside the empty list -/
theorem ne_nil {K : PySem.W.Frag} {H : Hp} {a b : Addr} {Q : VK} (h1 : H a = some (.lst [])) (h2 : H b = some (.lst [])) (q : Q (.bl false) H) : rNeD K (.ref a) (.ref b) H Q :=
  ⟨.list [], .list [], .lst (SqL.of h1) .nil, .lst (SqL.of h2) .nil, rfl, rfl, q⟩
/-! rules that name the frame themselves, for comprehensions -/
section
variable {X : Cx} {K : PySem.W.Frag}
theorem call_isiK (h : X.K = K) : CallR X (.builtin "isinstance") (rIsi K) := h ▸ call_isi
theorem op_neDK (h : X.K = K) (hu : X.A.units + 64 < cLine) : OpR X (compareOp .NotEq) (rNeD K) := h ▸ op_neD hu
theorem op_eqDK (h : X.K = K) (hu : X.A.units + 64 < cLine) : OpR X (compareOp .Eq) (rEqD K) := h ▸ op_eqD hu
theorem sl_tupK (h : X.K = K) : SlR X (rSlT K) := h ▸ sl_tup
theorem sl_listK (h : X.K = K) : SlR X (rSlL K) := h ▸ sl_list
theorem op_catTK (h : X.K = K) : OpR X (binaryOp .Add) (rCatT K) := h ▸ op_catT
theorem call_list_ofK (h : X.K = K) : CallR X (.type "list") (fun xs H Q => ∃ p ys, xs = [.ref p] ∧ (SqL K H p ys ∨ SqT K H p ys) ∧ ∀ l, H l = none → Q (.ref l) (upd H l (.lst ys))) := h ▸ call_list_of
end
/-- one statement at a time -/
theorem seq_gen {A B : TS} {D : Ends} {σ : SV} {H : Hp} (h : ∀ C : SV → Hp → Prop, (∀ σ H, C σ H = B D σ H) → A { D with nx := C } σ H) : tSeq A B D σ H := h _ fun _ _ => rfl
/-- f() -/
theorem pe_d0 {X : Cx} {k j : Nat} {f : Addr} {fd : FuncData} {ps : List Str} {sp : Sp} {x : Str} {p pos : Pos} (D : DefAt X.prog X.w X.K X.mg X.base k x f fd ps sp) (hr : Room j X.A) (hkj : k ≤ j := by decide) (hg : Gl X x := by rfl) (hdb : (x == ("__debug__" : Str)) = false := by decide) :
    PE X (.Call (.Name x p) [] [] pos) (tD sp tNil) := by
  refine ⟨fun pins s σ H Q I h => ?_⟩
  refine (pe_call0 (dvs := []) D.F (hr.mono hkj) hg D.m D.kp D.b .nil pass0 hdb).run pins s σ H Q I ?_
  have e : (tCall sp [] E0 tNil) = tD sp tNil := by funext a b c; unfold tCall tD; simp only [List.append_nil]
  rw [e]
  exact h
end Kx

set_option Elab.async false
set_option linter.all false
set_option maxRecDepth 100000
set_option maxHeartbeats 4000000
set_option exponentiation.threshold 4000
/-! Cuttings. -/
namespace Kx
open PySem PySem.Spec PyProof.Rows L2
def CutOk (a b c e : Int) : Bool := decide (1 ≤ b) && (decide (1 ≤ c) && (decide (c + e < b) && (decide (0 ≤ a) && (decide (a < gcdI b c) && decide (gcdI (gcdI a (gcdI b c)) e = 1)))))
theorem gcd4 (a b c e : Int) : gcdI (gcdI a b) (gcdI c e) = gcdI (gcdI a (gcdI b c)) e := by
  simp only [gcdI, Int.natAbs_natCast, Nat.gcd_assoc]
def cutB (H : Hp) (x : V) : Bool := wholesB H 4 x && (match x with
  | .ref p => match H p with
    | some (.tup [.int a, .int b, .int c, .int e]) => CutOk a b c e
    | _ => false
  | _ => false)
theorem wholes4 {H : Hp} {x : V} (h : wholesB H 4 x = true) : ∃ p a b c e, x = .ref p ∧ H p = some (.tup [.int a, .int b, .int c, .int e]) := by
  obtain ⟨p, xs, e, ha, hl, hall⟩ := wholes_get h
  have hl4 : xs.length = 4 := by omega
  match xs, hl4 with
  | [u, v, w', y], _ =>
    simp only [List.all_cons, List.all_nil, Bool.and_true, Bool.and_eq_true] at hall
    obtain ⟨h1, h2, h3, h4⟩ := hall
    obtain ⟨i, rfl⟩ := isInt_get h1
    obtain ⟨j, rfl⟩ := isInt_get h2
    obtain ⟨l, rfl⟩ := isInt_get h3
    obtain ⟨m, rfl⟩ := isInt_get h4
    exact ⟨p, i, j, l, m, e, ha⟩
theorem cutB4 {H : Hp} {p : Addr} {a b c e : Int} (h : H p = some (.tup [.int a, .int b, .int c, .int e])) : cutB H (.ref p) = CutOk a b c e := by
  unfold cutB wholesB
  simp only [h, List.length_cons, List.length_nil, List.all_cons, List.all_nil, isIntV, Bool.and_self, Bool.and_true]
  rfl
theorem cutB_not {H : Hp} {x : V} (h : wholesB H 4 x = false) : cutB H x = false := by
  unfold cutB
  rw [h, Bool.false_and]
theorem cutB_same {H H' : Hp} {x : V} (s : Same H H') (h : OkItem H x) : cutB H' x = cutB H x := by
  unfold cutB
  rw [wholesB_same s h]
  cases x with
  | ref a =>
    obtain ⟨o, ho⟩ := h.at
    simp only [ho, s _ _ ho]
  | _ => rfl
abbrev Q4 := Int × Int × Int × Int
def cutV4 (q : Q4) : List V := [.int q.1, .int q.2.1, .int q.2.2.1, .int q.2.2.2]
def okQ (q : Q4) : Bool := CutOk q.1 q.2.1 q.2.2.1 q.2.2.2
def measC (q : Q4) : Int := q.2.2.2 * q.2.2.2 + 4 * q.2.1 * q.2.2.1
structure CutAt (H : Hp) (p : Addr) (q : Q4) : Prop where
  at' : H p = some (.tup (cutV4 q))
  ok : okQ q = true
theorem CutAt.same {H H' : Hp} {p : Addr} {q : Q4} (h : CutAt H p q) (s : Same H H') : CutAt H' p q := ⟨s _ _ h.at', h.ok⟩
theorem okQ_get {q : Q4} (h : okQ q = true) : 1 ≤ q.2.1 ∧ 1 ≤ q.2.2.1 ∧ q.2.2.1 + q.2.2.2 < q.2.1 ∧ 0 ≤ q.1 ∧ q.1 < gcdI q.2.1 q.2.2.1 ∧ gcdI (gcdI q.1 (gcdI q.2.1 q.2.2.1)) q.2.2.2 = 1 := by
  unfold okQ CutOk at h
  simp only [Bool.and_eq_true, decide_eq_true_eq] at h
  exact h
theorem sq_mod4 (e : Int) : (e * e) % 4 = 0 ∨ (e * e) % 4 = 1 := by
  have h : e % 2 = 0 ∨ e % 2 = 1 := by omega
  rcases h with h | h
  · left
    have e1 : e = 2 * (e / 2) := by omega
    rw [e1, show 2 * (e / 2) * (2 * (e / 2)) = 4 * ((e / 2) * (e / 2)) by grind]
    omega
  · right
    have e1 : e = 2 * (e / 2) + 1 := by omega
    rw [e1, show (2 * (e / 2) + 1) * (2 * (e / 2) + 1) = 4 * ((e / 2) * (e / 2) + e / 2) + 1 by grind]
    omega
theorem meas_cut {q : Q4} (h : okQ q = true) : Meas (measC q) := by
  obtain ⟨h1, h2, h3, _⟩ := okQ_get h
  unfold Meas measC
  generalize q.2.1 = b at *
  generalize q.2.2.1 = c at *
  generalize q.2.2.2 = e at *
  have hm := sq_mod4 e
  have hbc : b ≤ b * c := by
    have := Int.mul_le_mul_of_nonneg_left h2 (show 0 ≤ b by omega)
    omega
  have hcb : c ≤ b * c := by
    have := Int.mul_le_mul_of_nonneg_right h1 (show 0 ≤ c by omega)
    omega
  have e1 : 4 * b * c = 4 * (b * c) := Int.mul_assoc 4 b c
  have hee : 0 ≤ e * e := by
    by_cases h : e = 0
    · rw [h]; decide
    · have := xx_pos h; omega
  have he0 : e ≠ 0 → 0 < e * e := xx_pos
  rw [e1]
  refine ⟨?_, by omega⟩
  by_cases he : e = 0
  · subst he
    omega
  · have := he0 he
    omega
def spIsCutting : Sp := fun vs H Q _ => ∃ x, vs = [x] ∧ OkV H x ∧ ∀ H', Same H H' → Q (.bl (cutB H x)) H'
/-- where it is one -/
def spCheckCut0 : Sp := fun vs H Q _ => ∃ (p : Addr) (q : Q4), vs = [.ref p] ∧ CutAt H p q ∧ ∀ H', Same H H' → Q .non H'
def Sz4 (n : Nat) (q : Q4) : Prop := q.1.natAbs < 2 ^ n ∧ q.2.1.natAbs < 2 ^ n ∧ q.2.2.1.natAbs < 2 ^ n ∧ q.2.2.2.natAbs < 2 ^ n
def spMeasureOf0 : Sp := fun vs H Q _ => ∃ (p : Addr) (q : Q4), vs = [.ref p] ∧ CutAt H p q ∧ Sz4 1000 q ∧ ∀ H', Same H H' → Q (.int (measC q)) H'
def spApart : Sp := fun vs H Q _ => ∃ a b c : Int, vs = [.int a, .int b, .int c] ∧ Q (.bl (decide (gcdI (gcdI a b) c = 1))) H
def spWholeRoot0 : Sp := fun vs H Q _ => ∃ D : Int, vs = [.int D] ∧ Meas D ∧ D < 2 ^ 2000 ∧ Q (.int (rt D)) H
def spLawIsCutting : Sp := fun vs H Q _ => ∃ a b c e : Int, vs = [.int a, .int b, .int c, .int e] ∧ Q (.bl (CutOk a b c e)) H
/-- four numbers at an address -/
def spLawMeasure4 : Sp := fun vs H Q _ => ∃ (p : Addr) (q : Q4), vs = [.ref p] ∧ H p = some (.tup (cutV4 q)) ∧ Sz4 1000 q ∧ Q (.int (measC q)) H
theorem cutAt_okV {H : Hp} {p : Addr} {q : Q4} (h : H p = some (.tup (cutV4 q))) : OkV H (.ref p) := by
  refine ⟨⟨"tuple", tyS_tup h⟩, fun b xs e1 e2 y hy => ?_⟩
  cases e1
  rw [h] at e2
  cases e2
  simp only [cutV4, List.mem_cons, List.not_mem_nil, or_false] at hy
  rcases hy with rfl | rfl | rfl | rfl <;> exact ⟨"int", rfl⟩
theorem cutB_q {H : Hp} {p : Addr} {q : Q4} (h : H p = some (.tup (cutV4 q))) : cutB H (.ref p) = okQ q := cutB4 h
theorem meas_sz {q : Q4} {n : Nat} (h : Sz4 n q) : (measC q).natAbs < 2 ^ (2 * n + 4) := by
  obtain ⟨_, h2, h3, h4⟩ := h
  unfold measC
  have w1 : (q.2.2.2 * q.2.2.2).natAbs < 2 ^ (2 * n + 3) := up (wide_lt h4 h4) (by omega)
  have w2 : (4 * q.2.1 * q.2.2.1).natAbs < 2 ^ (2 * n + 3) := up (wide_lt (wide_lt (show (4 : Int).natAbs < 2 ^ 3 by decide) h2) h3) (by omega)
  exact sz_add w1 w2
end Kx
namespace Kx
open PySem PySem.Spec PyProof.Rows L2
def spDrawnCut : Sp := fun vs H Q _ => ∃ (g : Addr) (n : Int) (k : Nat), vs = [.ref g, .int n] ∧ GenAt H g k ∧ k ≤ 2 ^ 39 ∧ 1 ≤ n ∧ n ≤ 10 ^ 15 ∧
  ∀ (q : Q4) (p : Addr) (H' : Hp), Sz4 70 q → H p = none → H' p = some (.tup (cutV4 q)) → GenAt H' g (k + 200) → Keep g H H' → Q (.ref p) H'
def spRootRight : Sp := fun vs H Q _ => ∃ D : Int, vs = [.int D] ∧ Meas D ∧ D < 2 ^ 1000 ∧ Q (.bl true) H
def spGreat : Sp := fun vs H Q _ => vs = [] ∧ ∀ H', Same H H' → Q (.bl true) H'
def spFour (n : Nat) : Sp := fun vs H Q _ => ∃ (p : Addr) (q : Q4), vs = [.ref p] ∧ H p = some (.tup (cutV4 q)) ∧ Sz4 n q ∧ ∀ H', Same H H' → Q (.bl true) H'
end Kx
namespace Kx
open PySem PySem.Spec PyProof.Rows L2
def setQ (q : Q4) (i : Nat) (v : V) : List V := (cutV4 q).set i v
theorem bend {K : PySem.W.Frag} {H : Hp} {p : Addr} {q : Q4} {i : Nat} {v : V} {Qf : VK} (hp : H p = some (.tup (cutV4 q))) (hi : i < 4) (k : ∀ r H', Same H H' → H' r = some (.tup (setQ q i v)) → Qf (.ref r) H') :
    rSlA K (.ref p) none (some (0 + (i : Int))) H fun x H1 => 1 ≤ sizeLine ∧ ∀ p1, H1 p1 = none → rCatA K x (.ref p1) (upd H1 p1 (.tup [v])) fun y H2 => rSlA K (.ref p) (some (0 + (i : Int) + 1)) none H2 fun z H3 => rCatA K y z H3 Qf := by
  rcases (show i = 0 ∨ i = 1 ∨ i = 2 ∨ i = 3 by omega) with rfl | rfl | rfl | rfl
  · refine ⟨p, cutV4 q, rfl, SqT.of hp, fun h => absurd h (show ¬ (HT.sIx 4 0 none = 0 ∧ HT.sIx 4 4 (some (0 + ((0 : Nat) : Int))) = 4) by decide), fun _ a na => ⟨by decide, fun b nb => ?_⟩⟩
    rw [show cutV (cutV4 q) none (some (0 + ((0 : Nat) : Int))) = [] from rfl] at nb ⊢
    have ea : (upd (upd H a (.tup [])) b (.tup [v])) a = some (.tup []) := (Same.upd nb) _ _ upd_same
    have eb : (upd (upd H a (.tup [])) b (.tup [v])) b = some (.tup [v]) := upd_same
    have s1 : Same H (upd (upd H a (.tup [])) b (.tup [v])) := (Same.upd na).trans (Same.upd nb)
    generalize upd (upd H a (.tup [])) b (.tup [v]) = h1 at *
    have rest : ∀ (r : Addr) (h2 : Hp), Same H h2 → h2 r = some (.tup [v]) → rSlA K (.ref p) (some (0 + ((0 : Nat) : Int) + 1)) none h2 fun z H3 => rCatA K (.ref r) z H3 Qf := by
      intro r h2 s2 er
      refine ⟨p, cutV4 q, rfl, SqT.of (s2 _ _ hp), fun h => absurd h (show ¬ (HT.sIx 4 0 (some (0 + ((0 : Nat) : Int) + 1)) = 0 ∧ HT.sIx 4 4 none = 4) by decide), fun _ c nc => ?_⟩
      rw [show cutV (cutV4 q) (some (0 + ((0 : Nat) : Int) + 1)) none = [V.int q.2.1, V.int q.2.2.1, V.int q.2.2.2] from rfl]
      refine ⟨r, c, [v], [V.int q.2.1, V.int q.2.2.1, V.int q.2.2.2], rfl, rfl, SqT.of ((Same.upd nc) _ _ er), SqT.of upd_same, (show 4 ≤ sizeLine by decide), fun h => absurd h (by simp), ?_, ?_⟩
      · exact fun _ h => absurd h (by simp)
      · exact fun _ _ d nd => k d _ ((s2.trans (Same.upd nc)).trans (Same.upd nd)) upd_same
    exact ⟨a, b, [], [v], rfl, rfl, SqT.of ea, SqT.of eb, (show 1 ≤ sizeLine by decide), fun _ => rest b _ s1 eb, fun h => absurd rfl h, fun h => absurd rfl h⟩
  · refine ⟨p, cutV4 q, rfl, SqT.of hp, fun h => absurd h (show ¬ (HT.sIx 4 0 none = 0 ∧ HT.sIx 4 4 (some (0 + ((1 : Nat) : Int))) = 4) by decide), fun _ a na => ⟨by decide, fun b nb => ?_⟩⟩
    rw [show cutV (cutV4 q) none (some (0 + ((1 : Nat) : Int))) = [V.int q.1] from rfl] at nb ⊢
    have ea : (upd (upd H a (.tup [V.int q.1])) b (.tup [v])) a = some (.tup [V.int q.1]) := (Same.upd nb) _ _ upd_same
    have eb : (upd (upd H a (.tup [V.int q.1])) b (.tup [v])) b = some (.tup [v]) := upd_same
    have s1 : Same H (upd (upd H a (.tup [V.int q.1])) b (.tup [v])) := (Same.upd na).trans (Same.upd nb)
    generalize upd (upd H a (.tup [V.int q.1])) b (.tup [v]) = h1 at *
    have rest : ∀ (r : Addr) (h2 : Hp), Same H h2 → h2 r = some (.tup [V.int q.1, v]) → rSlA K (.ref p) (some (0 + ((1 : Nat) : Int) + 1)) none h2 fun z H3 => rCatA K (.ref r) z H3 Qf := by
      intro r h2 s2 er
      refine ⟨p, cutV4 q, rfl, SqT.of (s2 _ _ hp), fun h => absurd h (show ¬ (HT.sIx 4 0 (some (0 + ((1 : Nat) : Int) + 1)) = 0 ∧ HT.sIx 4 4 none = 4) by decide), fun _ c nc => ?_⟩
      rw [show cutV (cutV4 q) (some (0 + ((1 : Nat) : Int) + 1)) none = [V.int q.2.2.1, V.int q.2.2.2] from rfl]
      refine ⟨r, c, [V.int q.1, v], [V.int q.2.2.1, V.int q.2.2.2], rfl, rfl, SqT.of ((Same.upd nc) _ _ er), SqT.of upd_same, (show 4 ≤ sizeLine by decide), fun h => absurd h (by simp), ?_, ?_⟩
      · exact fun _ h => absurd h (by simp)
      · exact fun _ _ d nd => k d _ ((s2.trans (Same.upd nc)).trans (Same.upd nd)) upd_same
    exact ⟨a, b, [V.int q.1], [v], rfl, rfl, SqT.of ea, SqT.of eb, (show 2 ≤ sizeLine by decide), fun h => absurd h (by simp), fun _ h => absurd h (by simp), fun _ _ r nr => rest r _ (s1.trans (Same.upd nr)) upd_same⟩
  · refine ⟨p, cutV4 q, rfl, SqT.of hp, fun h => absurd h (show ¬ (HT.sIx 4 0 none = 0 ∧ HT.sIx 4 4 (some (0 + ((2 : Nat) : Int))) = 4) by decide), fun _ a na => ⟨by decide, fun b nb => ?_⟩⟩
    rw [show cutV (cutV4 q) none (some (0 + ((2 : Nat) : Int))) = [V.int q.1, V.int q.2.1] from rfl] at nb ⊢
    have ea : (upd (upd H a (.tup [V.int q.1, V.int q.2.1])) b (.tup [v])) a = some (.tup [V.int q.1, V.int q.2.1]) := (Same.upd nb) _ _ upd_same
    have eb : (upd (upd H a (.tup [V.int q.1, V.int q.2.1])) b (.tup [v])) b = some (.tup [v]) := upd_same
    have s1 : Same H (upd (upd H a (.tup [V.int q.1, V.int q.2.1])) b (.tup [v])) := (Same.upd na).trans (Same.upd nb)
    generalize upd (upd H a (.tup [V.int q.1, V.int q.2.1])) b (.tup [v]) = h1 at *
    have rest : ∀ (r : Addr) (h2 : Hp), Same H h2 → h2 r = some (.tup [V.int q.1, V.int q.2.1, v]) → rSlA K (.ref p) (some (0 + ((2 : Nat) : Int) + 1)) none h2 fun z H3 => rCatA K (.ref r) z H3 Qf := by
      intro r h2 s2 er
      refine ⟨p, cutV4 q, rfl, SqT.of (s2 _ _ hp), fun h => absurd h (show ¬ (HT.sIx 4 0 (some (0 + ((2 : Nat) : Int) + 1)) = 0 ∧ HT.sIx 4 4 none = 4) by decide), fun _ c nc => ?_⟩
      rw [show cutV (cutV4 q) (some (0 + ((2 : Nat) : Int) + 1)) none = [V.int q.2.2.2] from rfl]
      refine ⟨r, c, [V.int q.1, V.int q.2.1, v], [V.int q.2.2.2], rfl, rfl, SqT.of ((Same.upd nc) _ _ er), SqT.of upd_same, (show 4 ≤ sizeLine by decide), fun h => absurd h (by simp), ?_, ?_⟩
      · exact fun _ h => absurd h (by simp)
      · exact fun _ _ d nd => k d _ ((s2.trans (Same.upd nc)).trans (Same.upd nd)) upd_same
    exact ⟨a, b, [V.int q.1, V.int q.2.1], [v], rfl, rfl, SqT.of ea, SqT.of eb, (show 3 ≤ sizeLine by decide), fun h => absurd h (by simp), fun _ h => absurd h (by simp), fun _ _ r nr => rest r _ (s1.trans (Same.upd nr)) upd_same⟩
  · refine ⟨p, cutV4 q, rfl, SqT.of hp, fun h => absurd h (show ¬ (HT.sIx 4 0 none = 0 ∧ HT.sIx 4 4 (some (0 + ((3 : Nat) : Int))) = 4) by decide), fun _ a na => ⟨by decide, fun b nb => ?_⟩⟩
    rw [show cutV (cutV4 q) none (some (0 + ((3 : Nat) : Int))) = [V.int q.1, V.int q.2.1, V.int q.2.2.1] from rfl] at nb ⊢
    have ea : (upd (upd H a (.tup [V.int q.1, V.int q.2.1, V.int q.2.2.1])) b (.tup [v])) a = some (.tup [V.int q.1, V.int q.2.1, V.int q.2.2.1]) := (Same.upd nb) _ _ upd_same
    have eb : (upd (upd H a (.tup [V.int q.1, V.int q.2.1, V.int q.2.2.1])) b (.tup [v])) b = some (.tup [v]) := upd_same
    have s1 : Same H (upd (upd H a (.tup [V.int q.1, V.int q.2.1, V.int q.2.2.1])) b (.tup [v])) := (Same.upd na).trans (Same.upd nb)
    generalize upd (upd H a (.tup [V.int q.1, V.int q.2.1, V.int q.2.2.1])) b (.tup [v]) = h1 at *
    have rest : ∀ (r : Addr) (h2 : Hp), Same H h2 → h2 r = some (.tup [V.int q.1, V.int q.2.1, V.int q.2.2.1, v]) → rSlA K (.ref p) (some (0 + ((3 : Nat) : Int) + 1)) none h2 fun z H3 => rCatA K (.ref r) z H3 Qf := by
      intro r h2 s2 er
      refine ⟨p, cutV4 q, rfl, SqT.of (s2 _ _ hp), fun h => absurd h (show ¬ (HT.sIx 4 0 (some (0 + ((3 : Nat) : Int) + 1)) = 0 ∧ HT.sIx 4 4 none = 4) by decide), fun _ c nc => ?_⟩
      rw [show cutV (cutV4 q) (some (0 + ((3 : Nat) : Int) + 1)) none = [] from rfl]
      refine ⟨r, c, [V.int q.1, V.int q.2.1, V.int q.2.2.1, v], [], rfl, rfl, SqT.of ((Same.upd nc) _ _ er), SqT.of upd_same, (show 4 ≤ sizeLine by decide), fun h => absurd h (by simp), ?_, ?_⟩
      · exact fun _ _ => k r _ (s2.trans (Same.upd nc)) ((Same.upd nc) _ _ er)
      · exact fun _ h => absurd rfl h
    exact ⟨a, b, [V.int q.1, V.int q.2.1, V.int q.2.2.1], [v], rfl, rfl, SqT.of ea, SqT.of eb, (show 4 ≤ sizeLine by decide), fun h => absurd h (by simp), fun _ h => absurd h (by simp), fun _ _ r nr => rest r _ (s1.trans (Same.upd nr)) upd_same⟩
def setZ (q : Q4) : Nat → Int → Q4
  | 0, n => (n, q.2.1, q.2.2.1, q.2.2.2)
  | 1, n => (q.1, n, q.2.2.1, q.2.2.2)
  | 2, n => (q.1, q.2.1, n, q.2.2.2)
  | _, n => (q.1, q.2.1, q.2.2.1, n)
theorem setQ_int {q : Q4} {i : Nat} {n : Int} (hi : i < 4) : setQ q i (.int n) = cutV4 (setZ q i n) := by
  rcases (show i = 0 ∨ i = 1 ∨ i = 2 ∨ i = 3 by omega) with rfl | rfl | rfl | rfl <;> rfl
theorem setZ_sz {q : Q4} {i : Nat} {n : Int} {m : Nat} (z : Sz4 m q) (hn : n.natAbs < 2 ^ m) : Sz4 m (setZ q i n) := by
  obtain ⟨z1, z2, z3, z4⟩ := z
  unfold setZ
  split
  · exact ⟨hn, z2, z3, z4⟩
  · exact ⟨z1, hn, z3, z4⟩
  · exact ⟨z1, z2, hn, z4⟩
  · exact ⟨z1, z2, z3, hn⟩
theorem Sz4.up {n m : Nat} {q : Q4} (h : Sz4 n q) (l : n ≤ m) : Sz4 m q := ⟨Kx.up h.1 l, Kx.up h.2.1 l, Kx.up h.2.2.1 l, Kx.up h.2.2.2 l⟩
/-- a tuple with an odd item is none -/
theorem setQ_odd {H : Hp} {r : Addr} {q : Q4} {i : Nat} {v : V} (hi : i < 4) (h : H r = some (.tup (setQ q i v))) (hv : isIntV v = false) : cutB H (.ref r) = false := by
  refine cutB_not ?_
  rw [wholes_tup h]
  have : (setQ q i v).all isIntV = false := by
    rcases (show i = 0 ∨ i = 1 ∨ i = 2 ∨ i = 3 by omega) with rfl | rfl | rfl | rfl <;> (simp [setQ, cutV4, isIntV]; exact hv)
  rw [this, Bool.and_false]
theorem setQ_ok {H : Hp} {r : Addr} {q : Q4} {i : Nat} {v : V} (hi : i < 4) (h : H r = some (.tup (setQ q i v))) (hv : OkItem H v) : OkV H (.ref r) := by
  refine ⟨⟨"tuple", tyS_tup h⟩, fun b xs e1 e2 y hy => ?_⟩
  cases e1
  rw [h] at e2
  cases e2
  have hm : y = v ∨ y ∈ cutV4 q := by
    rcases List.mem_or_eq_of_mem_set hy with h | h
    · exact .inr h
    · exact .inl h
  rcases hm with rfl | hm
  · exact hv
  · simp only [cutV4, List.mem_cons, List.not_mem_nil, or_false] at hm
    rcases hm with rfl | rfl | rfl | rfl <;> exact ⟨"int", rfl⟩
end Kx
namespace Kx
open PySem PySem.Spec PyProof.Rows L2
theorem cutB_of {H : Hp} {x : V} {t : String} (h : tyS H x = some t) (hn : t ≠ "tuple") : cutB H x = false := cutB_not (wholes_not h hn)
theorem cutB_len {H : Hp} {a : Addr} {xs : List V} (h : H a = some (.tup xs)) (hl : xs.length ≠ 4) : cutB H (.ref a) = false := cutB_not (by
  rw [wholes_tup h, decide_eq_false (by omega), Bool.false_and])
theorem okV_tup {H : Hp} {a : Addr} {xs : List V} (h : H a = some (.tup xs)) (hi : ∀ y ∈ xs, OkItem H y) : OkV H (.ref a) := ⟨⟨"tuple", tyS_tup h⟩, fun b ys e1 e2 y hy => by
  cases e1
  rw [h] at e2
  cases e2
  exact hi y hy⟩
theorem shaped_ints (ns : List Int) : SeqAt.shaped (.list (ns.map PyData.int)) = true := flat_shaped fun d hd => by
  obtain ⟨n, _, rfl⟩ := List.mem_map.mp hd
  exact ⟨rfl, Nat.le_of_ble_eq_true rfl⟩
end Kx
namespace Kx
open PySem PySem.Spec PyProof.Rows L2
theorem eq_nil {K : PySem.W.Frag} {H : Hp} {a b : Addr} {Q : VK} (h1 : H a = some (.lst [])) (h2 : H b = some (.lst [])) (q : Q (.bl true) H) : rEqD K (.ref a) (.ref b) H Q :=
  ⟨.list [], .list [], .lst (SqL.of h1) .nil, .lst (SqL.of h2) .nil, rfl, rfl, q⟩
end Kx
namespace Kx
open PySem PySem.Spec PyProof.Rows L2
theorem dpAll_bools {K : PySem.W.Frag} {H : Hp} : ∀ bs : List Bool, DpAll K H (bs.map V.bl) (bs.map PyData.bool)
  | [] => .nil
  | b :: bs => .cons (.bl b) (dpAll_bools bs)
theorem shaped_bools (bs : List Bool) : SeqAt.shaped (.list (bs.map PyData.bool)) = true := flat_shaped fun d hd => by
  obtain ⟨n, _, rfl⟩ := List.mem_map.mp hd
  exact ⟨rfl, Nat.le_of_ble_eq_true rfl⟩
theorem ne_bools {K : PySem.W.Frag} {H : Hp} {a b : Addr} {Q : VK} (bs : List Bool) (h1 : H a = some (.lst (bs.map V.bl))) (h2 : H b = some (.lst (bs.map V.bl))) (q : Q (.bl false) H) : rNeD K (.ref a) (.ref b) H Q :=
  ⟨_, _, .lst (SqL.of h1) (dpAll_bools bs), .lst (SqL.of h2) (dpAll_bools bs), shaped_bools bs, shaped_bools bs, by rw [eqv_same (shaped_bools bs)]; exact q⟩
end Kx

set_option Elab.async false
set_option linter.all false
set_option maxRecDepth 100000
set_option maxHeartbeats 4000000
set_option exponentiation.threshold 4000
/-! Caught errors that are kept behind their clause. -/
namespace Kx
open PySem PySem.Spec PyProof.Rows L2
/-- an exception object at a: its class, its dict -/
def ExK (cls : Value) (d : Option Addr) (a : Addr) : HO := .ext fun h => ∃ (oe : Obj) (vs : Array Value), h.get? a = some oe ∧ Zc cls d oe ∧ oe.data = .fields vs
theorem exK_ok {P : Program} {w : World} {H : Hp} {h : Heap} {a : Addr} {cls : Value} {d : Option Addr} {oe : Obj} {vs : Array Value} (e : h.get? a = some oe) (z : Zc cls d oe) (dd : oe.data = .fields vs) : ObjOk P w H h a (ExK cls d a) :=
  ⟨⟨oe, vs, e, z, dd⟩, ⟨oe, e⟩, fun _ _ ⟨o, v, q, r⟩ k => ⟨o, v, k o q, r⟩⟩
theorem exK_at {P : Program} {w : World} {H : Hp} {h : Heap} {a : Addr} {cls : Value} {d : Option Addr} (hok : HOk P w H h) (e : H a = some (ExK cls d a)) : ∃ (oe : Obj) (vs : Array Value), h.get? a = some oe ∧ Zc cls d oe ∧ oe.data = .fields vs := by
  have x : ObjOk P w H h a (.ext fun h => ∃ (oe : Obj) (vs : Array Value), h.get? a = some oe ∧ Zc cls d oe ∧ oe.data = .fields vs) := hok a _ e
  exact x.1
section
variable {X : Cx} {pins : List (Addr × Obj)} {σ : SV} {H : Hp} {s : Shared}
theorem inv_suite0 (I : Inv X pins σ H s) (a : Addr) : Inv (X.suite a (X.pn ++ pins)) [] σ H s :=
  ⟨I.ok.suite _ _, I.os, I.bare, I.base, I.loc, I.cell, I.free, I.freeC, fun p hp => I.pin p (by rw [List.append_nil] at hp; exact hp), I.hok, I.len⟩
theorem inv_unsuite0 {a : Addr} {pn' : List (Addr × Obj)} (I : Inv (X.suite a (X.pn ++ pins)) pn' σ H s) (ok : X.Ok) : Inv X pins σ H s :=
  ⟨ok, I.os, I.bare, I.base, I.loc, I.cell, I.free, I.freeC, fun p hp => I.pin p (List.mem_append_left _ hp), I.hok, I.len⟩
end
/-- what the clause 'except x as n' wishes where the exception stays tracked -/
def wKeep (K : PySem.W.Frag) (c : Value) (i : Nat) (ts : Addr → Value → Option Addr → TS) (Wout : WX) (D : Ends) : WX := fun cls d σ H =>
  ∃ b, PySem.W.exmOne K cls c = some b ∧ (b = true → ∀ a, H a = none → ts a cls d { nx := fun σ' H' => D.nx (σ'.set i none) H', rt := D.rt, bk := fun σ' H' => D.bk (σ'.set i none) H', ct := fun σ' H' => D.ct (σ'.set i none) H' } (σ.set i (some (.ref a))) (upd H a (ExK cls d a))) ∧
    (b = false → Wout cls d σ H)
section
variable {X : Cx} {x n : Str} {c : Value} {i : Nat} {body suite : List Stmt} {b₀ : Stmt} {np pos pos' : Pos} {tb : WX → TS} {ts : Addr → Value → Option Addr → TS} {Wout : WX}
theorem ps_try_keep (hs : X.stack = X.env :: X.outer) (hf : X.env.frame = some X.env.locals) (hN : X.N.Nodup) (hi : X.N[i]? = some n) (hln : X.env.kindOf n = some .local) (hc : Names X x c) (tk : Takes X Wout)
    (hb : ∀ (W : WX) (pn : List (Addr × Obj)) (xe : Value → Shared → Prop), Takes (X.tr pn xe) W → PassesOwn (model X.prog X.w) X.A X.env xe → PSs (X.tr pn xe) body (tb W))
    (hsu : ∀ (a : Addr) (cls : Value) (d : Option Addr) (pn : List (Addr × Obj)), PSs (X.suite a pn) (b₀ :: suite) (ts a cls d)) :
    PS X (.Try body [.ExceptHandler (some (.Name x np)) (some n) (b₀ :: suite) pos'] [] [] pos) (fun D σ H => tb (wKeep X.K c i ts Wout D) D σ H) := by
  refine ⟨fun pins s σ H D I h => ?_⟩
  have ok := I.ok
  have hfr : X.A.frames = some (X.env :: X.outer) := by rw [ok.frames, hs]
  have hloc : Loc X.env.scope n := .inl hln
  refine wpAny_Try_except ?_
  refine wpAny_mono ((hb (wKeep X.K c i ts Wout D) (X.pn ++ pins) (fun e s₁ => wpAny (model X.prog X.w) X.A (noteFrame e X.env) (fun _ s₂ => wpAny (model X.prog X.w) X.A (setFlight e none) (fun _ s₃ =>
    wpAny (model X.prog X.w) X.A (handleBy e X.env [.ExceptHandler (some (.Name x np)) (some n) (b₀ :: suite) pos']) (SP X pins D) X.xe s₃) X.xe s₂) X.xe s₁) (fun u s' xx => ?_) PassesOwn.looking).run [] s σ H D (I.toTry _) h) (fun f s1 hsp => ?_) (fun e s1 he => he)
  · -- the catch
    obtain ⟨a, B, sI, pins', σ', H', cls, d, rfl, J', nb, up, sky, na, os, ag, b, hb1, hyes, hno⟩ := xx
    have J : Inv X pins σ' H' sI := J'.ofTry ok
    have sky' : Sky B (X.env :: X.outer) a (Zc cls d) X.env.locals s'.heap := by rw [← hs]; exact sky
    show wpAny (model X.prog X.w) X.A (noteFrame (.ref a) X.env) _ _ _
    refine Sky.land Zc.steady hfr hf sky' fun h3 fl3 up3 => ?_
    have J3 : Inv X pins σ' H' { s' with heap := h3 } := J.landed nb fl3.1 (up.trans up3) os ag
    obtain ⟨oe3, vs3, he3, hz3, hd3⟩ := fl3.there
    have notFr : ∀ {h : Heap} {o : Obj} {vs : Array Value}, h.FunFrames B (X.env :: X.outer) → h.get? a = some o → o.data = .fields vs → a ∉ frs (X.env :: X.outer) := fun {h o vs} ff e dd hm => by
      obtain ⟨_, o', e', hnf⟩ := ff.mem hm
      rw [e] at e'; cases e'
      exact hnf _ dd
    have nfr := notFr fl3.2.2.1 he3 hd3
    have nL : a ≠ X.env.locals := fun z => nfr (List.mem_filterMap.mpr ⟨X.env, List.mem_cons_self, by rw [hf, z]⟩)
    have nF : a ∉ X.fs := fun hm => by
      obtain ⟨e, he, q⟩ := List.mem_filterMap.mp hm
      exact nfr (List.mem_filterMap.mpr ⟨e, List.mem_cons_of_mem _ he, q⟩)
    have S3 := J3.suite he3 hd3 na nL nF
    refine wpAny_handleBy_cons (codeAny_handlers_test ?_) (by intro q; cases q)
    have LT : PySem.W.Looks (model X.prog X.w) h3 (typeOf (.ref a)) cls := fun A Q E s k q => wpAny_typeOf_ref (k _ _ he3) (by rw [hz3.1]; exact q)
    have LM := PySem.W.exm_one (M := model X.prog X.w) (J3.kIn) LT hb1
    have test : ∀ {Q : Value → Shared → Prop} {E : Value → Shared → Prop}, Q c { s' with heap := h3 } → wpAny (model X.prog X.w) (X.A.mark (some (.ref a))) (eval (.Name x np) X.env) Q E { s' with heap := h3 } := fun {Q E} q => by
      obtain ⟨hg, hdbg, hm | ⟨hm, hv, hnn⟩⟩ := hc
      · exact ld_glob (X := X.suite a ((a, oe3) :: (X.pn ++ pins))) S3 hg hm q hdbg
      · exact ld_blt (X := X.suite a ((a, oe3) :: (X.pn ++ pins))) S3 hg hm hv q hnn hdbg
    refine test (LM.here ?_)
    cases b with
    | true =>
      refine codeAny_handlers_suite_as ?_
      refine HandSPX.lands_againZ fl3 fun h4 fl4 up4 => ?_
      obtain ⟨oe4, vs4, he4, hz4, hd4⟩ := fl4.there
      have nB : B.get? a = none := fl4.2.1
      have nI : sI.heap.get? a = none := by
        cases e : sI.heap.get? a with
        | none => rfl
        | some o =>
          have hnfr : a ∉ frs X.stack := by rw [hs]; exact nfr
          have z := nb a o e hnfr
          rw [nB] at z
          cases z
      obtain ⟨G, g1, g2⟩ := restrict h4 fun b => decide (b ≠ a)
      have gk : ∀ b, b ≠ a → G.get? b = h4.get? b := fun b hb => g1 b (decide_eq_true hb)
      have ga : G.get? a = none := g2 a (by simp)
      have gs : ∀ b o, G.get? b = some o → h4.get? b = some o := fun b o e => by
        by_cases hb : b = a
        · rw [hb, ga] at e
          cases e
        · rw [← gk b hb]
          exact e
      have stG : B.StaysIn G := fun b o e => by
        have hb : b ≠ a := fun z => by
          rw [z, nB] at e
          cases e
        rw [gk b hb]
        exact fl4.1 b o e
      have upG : sI.heap.UpToSlots G := fun b o e hnd => by
        have hb : b ≠ a := fun z => by
          rw [z, nI] at e
          cases e
        obtain ⟨sl, q⟩ := ((up.trans up3).trans up4) b o e hnd
        exact ⟨sl, by rw [gk b hb]; exact q⟩
      have JG : Inv X pins σ' H' { s' with heap := G } := J.landed (s' := { s' with heap := G }) nb stG upG os ag
      have J4 : Inv X pins σ' (upd H' a (ExK cls d a)) { s' with heap := h4 } := Inv.laidN (s := { s' with heap := G }) (t' := s'.toks) JG gs ga na (exK_ok he4 hz4 hd4)
      have S4 := inv_suite0 J4 a
      refine store_ok (X := X.suite a (X.pn ++ pins)) (v := .ref a) S4 hN hi hloc rfl (fun s5 S5 => ?_) (.inr hln)
      refine wpAny_mono ((hsu a cls d (X.pn ++ pins)).run [] s5 _ _ _ S5 (hyes rfl a na)) (fun f s6 hsp => ?_) (fun _ _ z => False.elim z)
      have end_ : ∀ {σ6 : SV} {H6 : Hp} {Q : Shared → Prop}, Inv (X.suite a (X.pn ++ pins)) [] σ6 H6 s6 → (∀ s7, Inv X pins (σ6.set i none) H6 s7 → Q s7) →
          wpAny (model X.prog X.w) X.A (do bindName X.env n .none; unbindBehindTheSuite X.env n pos') (fun _ s7 => Q s7) X.xe s6 := fun {σ6 H6 Q} S6 hq => gone_ok (inv_unsuite0 S6 ok) hN hi hln hq
      cases f with
      | next =>
        obtain ⟨σ6, H6, S6, q6⟩ := hsp
        exact end_ S6 fun s7 J7 => ⟨_, _, J7, q6⟩
      | brk =>
        obtain ⟨σ6, H6, S6, q6⟩ := hsp
        exact end_ S6 fun s7 J7 => ⟨_, _, J7, q6⟩
      | cont =>
        obtain ⟨σ6, H6, S6, q6⟩ := hsp
        exact end_ S6 fun s7 J7 => ⟨_, _, J7, q6⟩
      | ret u =>
        obtain ⟨v6, σ6, H6, S6, r6, q6⟩ := hsp
        exact end_ S6 fun s7 J7 => ⟨_, _, _, J7, r6, q6⟩
    | false =>
      show wpAny _ X.A (handleBy (.ref a) X.env []) _ _ _
      refine wpAny_handleBy_nil ?_
      obtain ⟨k1, k2, k3, oe, vs, T, oT, ts', he, hz, hd, h1, hr⟩ := id fl3
      unfold PySem.passOn
      refine wpAny_bind (wpAny_field he hd h1 ?_)
      rw [if_neg (show ¬ ((Value.ref T == Value.none) = true) from by simp)]
      have fin : wpAny (model X.prog X.w) X.A (setFlight (.ref a) X.env.frame) (fun _ s4 => wpAny (model X.prog X.w) X.A (throw (.ref a) : Sem Flow) (SP X pins D) X.xe s4) X.xe { s' with heap := h3 } := by
        rw [hf]
        refine HandSPX.setFlight_upZ fl3 fun h4 hh4 up4 => wpAny_throw (tk _ _ ?_)
        exact ⟨a, B, sI, pins, σ', H', cls, d, rfl, J, nb, (up.trans up3).trans up4, .inr (.inr (by rw [hs]; exact hh4)), na, os, ag, hno rfl⟩
      first
        | exact wpAny_bind (wpAny_pure (wpAny_bind fin))
        | exact wpAny_bind fin
  · cases f with
    | next =>
      obtain ⟨σ', H', J', q⟩ := hsp
      exact wpAny_execs_nil ⟨σ', H', J'.ofTry ok, q⟩
    | brk =>
      obtain ⟨σ', H', J', q⟩ := hsp
      exact ⟨σ', H', J'.ofTry ok, q⟩
    | cont =>
      obtain ⟨σ', H', J', q⟩ := hsp
      exact ⟨σ', H', J'.ofTry ok, q⟩
    | ret u =>
      obtain ⟨v, σ', H', J', r, q⟩ := hsp
      exact ⟨v, σ', H', J'.ofTry ok, r, q⟩
end
/-! ### what is asked of a kept exception -/
/-- isinstance(e, c) -/
def rIsK (K : PySem.W.Frag) : List V → Hp → VK → Prop := fun xs H Q => ∃ (a D : Addr) (dd : Addr) (fs : List (Str × V)) (c : V) (cv : Value) (b : Bool), xs = [.ref a, c] ∧ H a = some (ExK (.ref D) (some dd) a) ∧ H dd = some (.xd fs) ∧ L2.ExcC K D ∧ (∀ u, RelV c u → u = cv) ∧ PySem.W.kitOne K (.ref D) cv = some b ∧ Q (.bl b) H
theorem call_isK {X : Cx} : CallR X (.builtin "isinstance") (rIsK X.K) := by
  intro pins s σ H xs us Q I r h
  obtain ⟨a, D, dd, fs, c, cv, b, rfl, ha, hdd, C, hcv, e, q⟩ := h
  cases r with
  | cons rx rr =>
    cases rr with
    | cons rt rr =>
      cases rr
      cases rx
      have ec := hcv _ rt
      subst ec
      obtain ⟨oe, vs, hget, hz, hv⟩ := exK_at I.hok ha
      have hx : ObjOk X.prog X.w H s.heap dd (.xd fs) := I.hok dd _ hdd
      obtain ⟨mA, hns, hr⟩ := hx
      obtain ⟨od, ho, hl⟩ := lookIn_ns hns
      have J : PySem.W.InstAt s.heap a oe D (some od) := ⟨hget, hz.1, by unfold PySem.W.notCls; rw [hv] <;> rfl, by rw [hz.2]; exact ho⟩
      obtain ⟨cd, hcd, _⟩ := PySem.W.any_some C.hd
      exact PySem.W.kia_one (PySem.W.kitx_exc (by rw [hcd]; rfl) C.hg C.hk C.hs C.ha C.hn C.ht C.hm) I.kIn J e (fun z => nomatch z) fun tk => ⟨.bl b, H, I.kept (t' := tk) fun _ _ z => z, rfl, q⟩
/-- e.f -/
def tXk (K : PySem.W.Frag) (f : Str) (te : TE) : TE := fun σ H Q => te σ H fun x H1 => ∃ (a C dd : Addr) (fs : List (Str × V)) (v : V), x = .ref a ∧ H1 a = some (ExK (.ref C) (some dd) a) ∧ XfC K C ∧ PySem.W.findIn K (.ref C) f = some none ∧ H1 dd = some (.xd fs) ∧ fs.lookup f = some v ∧ Q v H1
theorem pe_xk {X : Cx} {e : Expr} {te : TE} {pos : Pos} {n : Str} (he : PE X e te) (hb : attributeBase e n X.env (eval e X.env) = eval e X.env := by rfl) : PE X (.Attribute e n pos) (tXk X.K n te) := by
  refine ⟨fun pins s σ H Q I h => ?_⟩
  refine attr_of hb (thn (he.run pins s σ H _ I h) fun u s1 hh => ?_)
  obtain ⟨x, H1, I1, rx, a, C, dd, fs, v, ex, ha, T, hno, ea, l, q⟩ := hh
  subst ex
  obtain rfl : u = Value.ref a := rx
  obtain ⟨oe, vs, hget, hz, hd⟩ := exK_at I1.hok ha
  have hx : ObjOk X.prog X.w H1 s1.heap dd (.xd fs) := I1.hok dd _ ea
  obtain ⟨mA, hns, hr⟩ := hx
  obtain ⟨od, ho, hl⟩ := lookIn_ns hns
  obtain ⟨u, hu, ru⟩ := RelO.some_of (v := v) (o := mA n) (by rw [← l]; exact hr n)
  have J : PySem.W.InstAt s1.heap a oe C (some od) := ⟨hget, hz.1, by unfold PySem.W.notCls; rw [hd] <;> rfl, by rw [hz.2]; exact ho⟩
  exact HandSPX.exc_get I1.kIn J T.ga T.gg T.exC (PySem.W.findObj_own T.hdC hno rfl (by rw [hl, hu])) (handed_of ru) ⟨v, H1, I1.tok _, ru, q⟩
end Kx
namespace Kx
open PySem PySem.Spec PyProof.Rows L2
def tMono (t : TA) : TA := fun σ H Q => ∃ Q0 : List V → Hp → Prop, t σ H Q0 ∧ ∀ vs H1, Q0 vs H1 → Q vs H1
theorem pa_mono {X : Cx} {es : List Expr} {t : TA} (h : PA X es t) : PA X es (tMono t) := ⟨fun pos pins s σ H Q I ⟨Q0, h0, m⟩ => thn (h.run pos pins s σ H Q0 I h0) fun us s1 ⟨vs, H1, I1, r, q⟩ => ⟨vs, H1, I1, r, m vs H1 q⟩⟩
/-- self.value = value -/
def spInit (C : Addr) : Sp := fun vs H Q _ => ∃ (a : Addr) (v : V), vs = [.ref a, v] ∧ H a = some (exo a C none) ∧ ∀ dx, H dx = none → dx ≠ a → Q .non (upd (upd H dx (exd dx [("value", v)])) a (exo a C (some dx)))
/-- a class of errors that bear one value -/
structure ErrC (P : Program) (w : World) (K : PySem.W.Frag) (mg : Str → Option Value) (base : Heap) (x : Str) (C : Addr) : Prop where
  ex : ∃ (fI : Addr) (fd : FuncData), PySem.W.findIn K (.ref C) "__init__" = some (some (.ref fI)) ∧ PySem.W.typeIn K (.ref fI) = some (.type "function") ∧ FnOk P w K mg base CX0 1 fI fd ["self", "value"] (spInit C) ∧ Binds K fd ["self", "value"] []
  T : OexC K C
  m : mg x = some (.ref C)
  xf : XfC K C
  ec : L2.ExcC K C
  nv : PySem.W.findIn K (.ref C) "value" = some none
def tErr (C : Addr) (ta : TA) : SV → Hp → XK → Prop := fun σ H Q => ta σ H fun vs H1 => ∃ v, vs = [v] ∧ ∀ d, H1 d = none → Q (.ref C) (some d) (upd H1 d (.xd [("value", v)]))
theorem pmk_err {X : Cx} {j : Nat} {x : Str} {C : Addr} {e : Expr} {ta : TA} {p pos : Pos} (E : ErrC X.prog X.w X.K X.mg X.base x C) (hr : Room j X.A) (ha : PA X [e] ta) (hj : 2 ≤ j := by decide) (hg : Gl X x := by rfl) (hdb : (x == ("__debug__" : Str)) = false := by decide)
    (he : starEach [e] X.env = (false, eval e X.env) :: starEach [] X.env := by rfl) (hpl : (backTo pos (starEach [] X.env)).any (·.1) = false := by rfl) : PMk X (.Call (.Name x p) [e] [] pos) (tErr C ta) := by
  intro pins s σ H Q I h
  obtain ⟨fI, fd, iC, tI, F1, hb⟩ := E.ex
  refine pmk_oex (dvs := []) (ds := []) E.T iC tI F1 (hr.mono hj) hb .nil pass0 hg E.m (pa_mono ha) hdb he hpl pins s σ H Q I ?_
  refine ⟨_, h, fun vs H1 z => ?_⟩
  obtain ⟨v, rfl, k⟩ := z
  refine ⟨show 1 ≤ 1000 by decide, fun a na => ⟨a, v, rfl, upd_same, fun dx ndx hne => ⟨rfl, dx, [("value", v)], upd_same, ?_, ?_, ?_⟩⟩⟩
  · rw [upd_ne hne]
    exact upd_same
  · rw [upd_ne hne] at ndx
    exact ndx
  · have hd : H1 dx = none := by
      rw [upd_ne hne] at ndx
      exact ndx
    have e1 : upd (L2.del (upd (upd (upd H1 a (exo a C none)) dx (exd dx [("value", v)])) a (exo a C (some dx))) a) dx (.xd [("value", v)]) = upd H1 dx (.xd [("value", v)]) := by
      funext b
      by_cases hb : b = dx
      · rw [hb, upd_same, upd_same]
      · rw [upd_ne hb, upd_ne hb]
        by_cases hba : b = a
        · rw [hba, L2.del_same]
          exact na.symm
        · rw [L2.del_ne hba, upd_ne hba, upd_ne hb, upd_ne hba]
    rw [e1]
    exact k dx hd
/-! ### defs that may raise -/
structure DefX (P : Program) (w : World) (K : PySem.W.Frag) (mg : Str → Option Value) (base : Heap) (k : Nat) (x : Str) (f : Addr) (fd : FuncData) (ps : List Str) (sp : Sp) : Prop where
  F : FnOk P w K mg base (L2.CX P w) k f fd ps sp
  m : mg x = some (.ref f)
  kp : PySem.W.keepIn K (.ref f) = true
  b : Binds K fd ps []
/-- .. by its address -/
def FnAt (P : Program) (w : World) (K : PySem.W.Frag) (mg : Str → Option Value) (base : Heap) (j : Nat) (f : Addr) (sp : Sp) : Prop :=
  ∃ (k : Nat) (fd : FuncData) (ps : List Str), k ≤ j ∧ FnOk P w K mg base (L2.CX P w) k f fd ps sp ∧ PySem.W.keepIn K (.ref f) = true ∧ Binds K fd ps []
section
variable {X : Cx} {W : WX} {k j : Nat} {f : Addr} {fd : FuncData} {ps : List Str} {sp : Sp} {x : Str} {p pos : Pos} {a b e : Expr} {es : List Expr} {t : TA} {tf : TE}
theorem DefX.at' {P : Program} {w : World} {K : PySem.W.Frag} {mg : Str → Option Value} {base : Heap} (D : DefX P w K mg base k x f fd ps sp) (h : k ≤ j := by decide) : FnAt P w K mg base j f sp := ⟨k, fd, ps, h, D.F, D.kp, D.b⟩
theorem pe_dS (D : DefX X.prog X.w X.K X.mg X.base k x f fd ps sp) (tk : Takes X W) (hr : Room j X.A) (ha : PA X (e :: es) t) (hkj : k ≤ j := by decide) (hg : Gl X x := by rfl) (hdb : (x == ("__debug__" : Str)) = false := by decide)
    (he : starEach (e :: es) X.env = (false, eval e X.env) :: starEach es X.env := by rfl) (hpl : (backTo pos (starEach es X.env)).any (·.1) = false := by rfl) : PE X (.Call (.Name x p) (e :: es) [] pos) (tCallS sp (WE W) t) :=
  pe_callS D.F (hr.mono hkj) hg D.m D.kp D.b (fun σ => passAt tk σ) ha hdb he hpl
/-- [f, g, ..][i](e, ..) -/
def tIxCall (P : Program) (w : World) (K : PySem.W.Frag) (mg : Str → Option Value) (base : Heap) (j : Nat) (E : SV → XK) (tf : TE) (t : TA) : TE := fun σ H Q => tf σ H fun x H1 => ∃ (f : Addr) (sp : Sp), x = .ref f ∧ FnAt P w K mg base j f sp ∧ t σ H1 fun vs H2 => sp vs H2 Q (E σ)
theorem pe_ixcall (hf : PE X (.Subscript a b p) tf) (tk : Takes X W) (hr : Room j X.A) (ha : PA X (e :: es) t) (he : starEach (e :: es) X.env = (false, eval e X.env) :: starEach es X.env := by rfl) (hpl : (backTo pos (starEach es X.env)).any (·.1) = false := by rfl) :
    PE X (.Call (.Subscript a b p) (e :: es) [] pos) (tIxCall X.prog X.w X.K X.mg X.base j (WE W) tf t) := by
  refine ⟨fun pins s σ H Q I h => ?_⟩
  have ev : eval (.Call (.Subscript a b p) (e :: es) [] pos) X.env = (do callWith pos (← eval (.Subscript a b p) X.env) [] (backTo pos (starEach (e :: es) X.env)) (backToKw pos (keywordEach [] X.env))) := rfl
  rw [ev]
  refine wpAny_bind (thn (hf.run pins s σ H _ I h) fun u s1 hh => ?_)
  obtain ⟨x, H1, I1, rx, f, sp, ex, ⟨k, fd, ps, hk, F, kp, hb⟩, q⟩ := hh
  subst ex
  obtain rfl : u = Value.ref f := rx
  refine PySem.W.callWith_K (h₀ := X.base) I1.ok.mod.kin kp (thn (ha.run pos pins s1 σ H1 _ I1 q) fun us s2 ⟨vs, H2, I2, r, q2⟩ => ⟨I2.kIn, ?_⟩) he hpl
  exact run_fnS F (hr.mono hk) hb (passAt tk σ) I2 r q2
end
/-- the body of a def that may raise takes what it wishes -/
theorem takes_def {P : Program} {w : World} {K : PySem.W.Frag} {mg : Str → Option Value} {base : Heap} {N : List Str} {qual : Str} {sc : Scope} {f : Addr} {cd : Value} {A : Around} {outer : List Env} {s : Shared} {H : Hp} {E : XK} :
    Takes (cxOf (L2.CX P w) P w K mg base N qual sc f cd A outer s H E) (fun cls d _ H' => E cls d H') := takes_of rfl rfl rfl rfl
end Kx

set_option Elab.async false
set_option linter.all false
set_option maxRecDepth 100000
set_option maxHeartbeats 4000000
set_option exponentiation.threshold 4000
namespace PySem
namespace NX
open PySem.W PySem.Calls PyProof.Rows PySem.HandSPX
section
variable {M : Model} {A : Around} {E : Value → Shared → Prop} {h : Heap} {g : Array GenState} {d : Drawn} {t : Nat} {os : OsState}
variable {nm q : Str} {C N : Addr} {bs bm bmB : List Value} {hdct : Bool} {sn : List Str} {sub : List Value} {ab : Bool} {col : Option Bool} {dd : Option Addr} {k0 k1 k2 k3 k5 : Option Value} {B newId initId : String}
theorem check_new_kw (F : ExcBaseFacts B newId initId bmB) (hT : ∀ X : String, bm.contains (.type X) = bmB.contains (.type X)) {kn : Str} {kv : Value} {Q : Unit → Shared → Prop}
    (hC : h.get? C = some (excClassObj nm q C N bs bm hdct sn sub ab col dd k0 k1 k2 k3 k5 newId)) (hq : Q () ⟨h, g, d, t, os⟩) : wpAny M A (checkBuiltinCall newId ⟨[.ref C], [(kn, kv)]⟩) Q E ⟨h, g, d, t, os⟩ := by
  have hcont : (Value.ref C :: bm).contains (.type B) = true := by rw [List.contains_cons, hT, F.hasB, Bool.or_true]
  have hstar := F.noStar
  simp only [checkBuiltinCall, F.newKind, F.newSplit, F.newRow]
  repeat (first | refine wpAny_loadPart_at hC ?_ | (refine wpAny_isSubtype_exc hC ?_; rw [hcont]) | refine wpAny_staticBase_exc hC ?_ | refine wpAny_madeBy_exc hC ?_ | simp only [bne_self_eq_false, Bool.false_eq_true, if_false] | wp_step)
  exact hq
end
section
variable {prog : Program} {w : World} {A : Around} {E : Value → Shared → Prop} {R : Result → Shared → Prop} {h : Heap} {g : Array GenState} {d : Drawn} {t : Nat} {os : OsState}
variable {nm q : Str} {C N : Addr} {bs bm bmB : List Value} {hdct : Bool} {sn : List Str} {sub : List Value} {ab : Bool} {col : Option Bool} {dd : Option Addr} {k0 k1 k2 k3 k5 : Option Value} {B newId initId : String}
theorem new_kw (F : ExcBaseFacts B newId initId bmB) (hT : ∀ X : String, bm.contains (.type X) = bmB.contains (.type X)) {kn : Str} {kv : Value}
    (hC : h.get? C = some (excClassObj nm q C N bs bm hdct sn sub ab col dd k0 k1 k2 k3 k5 newId))
    (hq : R (.ok (.ret (.ref (h.objs.size + 1)))) ⟨(h.push { cls := .type "tuple", data := .seq ([] : List Value).toArray }).push
      { cls := .ref C, data := .fields #[.ref h.objs.size, .none, .none, .none, .bool false, .none] }, g, d, t, os⟩) :
    codeAny (model prog w) A (.builtin newId ⟨[.ref C], [(kn, kv)]⟩) R ⟨h, g, d, t, os⟩ := by
  have hends := F.ends
  have hcB : (Value.ref C :: bm).contains (.type B) = true := by rw [List.contains_cons, hT, F.hasB, Bool.or_true]
  have hcA : (Value.ref C :: bm).contains (.type "AttributeError") = false := by rw [List.contains_cons, hT, F.noAttr]; rfl
  have hcN : (Value.ref C :: bm).contains (.type "NameError") = false := by rw [List.contains_cons, hT, F.noName]; rfl
  have hrest : ([] : List Value).length ≤ sizeLine := by decide
  refine codeAny_builtinAt F.entry ?_
  unfold Builtin.«BaseException.__new__»
  refine wpAt_bind ?_
  show wpAt _ _ _ (stack >>= _) _ _ _
  refine wpAt_bind (wpAt_stack fun p below => wpAt_of_wpAny ?_)
  wp_walk
  refine wpAt_of_wpAny ?_
  rw [F.owner]
  repeat (first | with_reducible refine wpAny_madeHere_exc F.canon hC ?_ | with_reducible refine wpAny_loadPart_at hC ?_ | (with_reducible refine wpAny_isSubtype_exc hC ?_; first | rw [hcB] | rw [hcA] | rw [hcN]) | wp_step)
  show R _ _
  rw [Heap.size_push]
  exact hq
theorem type_call_kw (F : ExcBaseFacts B newId initId bmB) (hT : ∀ X : String, bm.contains (.type X) = bmB.contains (.type X)) {kn : Str} {kv : Value} {fI : Addr} {Q : Fin → Shared → Prop}
    (hC : h.get? C = some (excClassObj nm q C N bs bm hdct sn sub ab col dd k0 k1 k2 k3 k5 newId))
    (hi : W.Looks (model prog w) h (typeLookup (.ref C) "__init__") (some (.ref fI))) (hb : ∀ self, W.Looks (model prog w) h (bindSpecial (.ref fI) self) (.ref fI, [self]))
    (hq : codeAny (model prog w) A (.call (.ref fI) ⟨[.ref (h.objs.size + 1)], [(kn, kv)]⟩)
      (fun r s' => match r with | .ok (.ret v) => v = .none ∧ Q (.done (.ret (.ref (h.objs.size + 1)))) s' | .ok _ => False | .error e => E e s')
      ⟨(h.push (W.kdv_tup [])).push (excO C h.objs.size), g, d, t, os⟩) :
    wpAny (model prog w) A (Builtin.«type.__call__» ⟨[.ref C], [(kn, kv)]⟩) Q E ⟨h, g, d, t, os⟩ := by
  repeat (first | with_reducible refine wpAny_loadPart_at hC ?_ | with_reducible refine wpAny_madeBy_exc hC ?_ | wp_step)
  refine codeAny_call_builtin_code (Code.quiet_builtin _ F.quiet) (check_new_kw F hT hC ?_)
  refine new_kw F hT hC ?_
  show wpAny _ _ _ _ _ _
  have k : ∀ b o, h.get? b = some o → ((h.push (W.kdv_tup [])).push (excO C h.objs.size)).get? b = some o := fun b o e => Heap.get?_push_of_some _ (Heap.get?_push_of_some _ e)
  have hC₁ := k _ _ hC
  have hget : ((h.push (W.kdv_tup [])).push (excO C h.objs.size)).get? (h.objs.size + 1) = some (excO C h.objs.size) := by heap_get
  have hcC : (Value.ref C :: bm).contains (.ref C) = true := by simp
  have i1 := hi.keeps k
  have b1 := (hb (.ref (h.objs.size + 1))).keeps k
  unfold isInstance
  repeat (first | with_reducible refine wpAny_loadPart_at hget ?_ | (with_reducible refine wpAny_isSubtype_exc hC₁ ?_; rw [hcC]) | wp_step)
  show wpAny _ _ (typeLookup (.ref C) _) _ _ _
  refine i1.at ?_
  refine wpAny_holding (wpAny_bind (b1.at ?_))
  refine wpAny_bind (wpAny_call (codeAny_mono hq fun r s' z => ?_))
  rcases r with e | (v | _ | _ | _) <;> first | exact z | exact z.elim | skip
  obtain ⟨rfl, z⟩ := z
  first
    | exact wpAny_pure (wpAny_pure z)
    | (wp_walk; exact z)
theorem call_kw (F : ExcBaseFacts B newId initId bmB) (hT : ∀ X : String, bm.contains (.type X) = bmB.contains (.type X)) {kn : Str} {kv : Value} {fI : Addr}
    (hC : h.get? C = some (excClassObj nm q C N bs bm hdct sn sub ab col dd k0 k1 k2 k3 k5 newId))
    (hi : W.Looks (model prog w) h (typeLookup (.ref C) "__init__") (some (.ref fI))) (hb : ∀ self, W.Looks (model prog w) h (bindSpecial (.ref fI) self) (.ref fI, [self]))
    (hq : codeAny (model prog w) (A.under (.builtin "type.__call__" ⟨[.ref C], [(kn, kv)]⟩)) (.call (.ref fI) ⟨[.ref (h.objs.size + 1)], [(kn, kv)]⟩) (W.InitBack (h.objs.size + 1) R)
      ⟨(h.push (W.kdv_tup [])).push (excO C h.objs.size), g, d, t, os⟩) :
    codeAny (model prog w) A (.call (.ref C) ⟨[], [(kn, kv)]⟩) R ⟨h, g, d, t, os⟩ := by
  have f1 := tc_lookup
  have f2 := tc_bind (.ref C)
  have hTy : (⟨h, g, d, t, os⟩ : Shared).TypeIs (.ref C) "type" := ⟨_, hC, rfl⟩
  refine codeAny_of_tree ?_
  show wpAny _ _ (callAny (.ref C) _) _ _ _
  repeat (any_goals (first | assumption | with_reducible refine wpAny_loadPart_at hC ?_ | wp_step))
  refine ⟨rfl, ?_⟩
  refine codeAny_call_builtin_at (Code.quiet_builtin _ (by decide +kernel)) entry_typeCall (wpAny_check_type_call_sub hC (type_call_kw F hT hC hi hb ?_))
  refine codeAny_mono hq fun r s' z => ?_
  rcases r with e | (v | _ | _ | _) <;> exact z
end
end NX
end PySem
namespace Kx
open PySem PySem.Spec PyProof.Rows L2
/-- an error made, not raised -/
structure Made (H1 H2 : Hp) (C a dx : Addr) (v : V) : Prop where
  na : H1 a = none
  nd : H1 dx = none
  ne : dx ≠ a
  ea : H2 a = some (exo a C (some dx))
  ed : H2 dx = some (exd dx [("value", v)])
  sm : Same H1 H2
/-- a class of errors with its own __init__ -/
structure ErrN (P : Program) (w : World) (K : PySem.W.Frag) (mg : Str → Option Value) (base : Heap) (x : Str) (C fI : Addr) (fd : FuncData) : Prop where
  iC : PySem.W.findIn K (.ref C) "__init__" = some (some (.ref fI))
  tI : PySem.W.typeIn K (.ref fI) = some (.type "function")
  F : FnOk P w K mg base CX0 1 fI fd ["self", "value"] (spInit C)
  b1 : Binds K fd ["self", "value"] []
  b0 : ∃ ds, Vals [V.non] ds ∧ Binds K fd ["self", "value"] ds
  bk : ∀ (s : Shared) (u v : Value), K.In s.heap → BindsTo s fd ⟨[u], [("value", v)]⟩ [("self", u), ("value", v)]
  T : OexC K C
  m : mg x = some (.ref C)
  xf : XfC K C
  ec : L2.ExcC K C
  nv : PySem.W.findIn K (.ref C) "value" = some none
section
variable {X : Cx} {pins : List (Addr × Obj)} {σ : SV} {H : Hp} {s : Shared} {x : Str} {C fI : Addr} {fd : FuncData} {j : Nat} {p pos : Pos} {e : Expr} {ta : TA} {te : TE} {Q : VK}
/-- the __init__'s own promise, met -/
theorem init_hq {v : V} {a : Addr} (na : H a = none) (k : ∀ a dx H2, Made H H2 C a dx v → Q (.ref a) H2) : spInit C [.ref a, v] (upd H a (exo a C none)) (fun r H2 => r = .non ∧ Q (.ref a) H2) (fun _ _ _ => False) := by
  refine ⟨a, v, rfl, upd_same, fun dx ndx hne => ⟨rfl, k a dx _ ⟨na, ?_, hne, upd_same, ?_, fun b u eb => ?_⟩⟩⟩
  · rw [upd_ne hne] at ndx
    exact ndx
  · rw [upd_ne hne]
    exact upd_same
  · have hba := ne_of_none eb na
    have hd : H dx = none := by
      rw [upd_ne hne] at ndx
      exact ndx
    rw [upd_ne hba, upd_ne (ne_of_none eb hd), upd_ne hba]
    exact eb
theorem run_new {us ds : List Value} {vs dvs : List V} {v : V} (E : ErrN X.prog X.w X.K X.mg X.base x C fI fd) (hr : Room j X.A) (hj : 2 ≤ j) (hb : Binds X.K fd ["self", "value"] ds) (hd : Vals dvs ds) (I : Inv X pins σ H s) (r : Vals vs us) (hv : vs ++ dvs = [v])
    (k : ∀ a dx H2, Made H H2 C a dx v → Q (.ref a) H2) : wpAny (model X.prog X.w) X.A (call (.ref C) us) (EP X pins σ Q) X.xe s := by
  obtain ⟨nm, q, N, bs, bm, sn, sub, ab, col, dd, k0, k1, k2, k3, k5, hC, hbm⟩ := E.T.cls
  obtain ⟨hp, g, dr, tk, os⟩ := s
  have hsz : hp.objs.size ≤ hp.objs.size + 1 := Nat.le_succ _
  have hn : H (hp.objs.size + 1) = none := I.hok.fresh hsz
  have hq := init_hq (Q := Q) (v := v) hn k
  have kk : ∀ b o, hp.get? b = some o → ((hp.push (PySem.W.kdv_tup us)).push (PySem.HandSPX.excO C hp.objs.size)).get? b = some o := fun b o e => Heap.get?_push_of_some _ (Heap.get?_push_of_some _ e)
  have hget : ((hp.push (PySem.W.kdv_tup us)).push (PySem.HandSPX.excO C hp.objs.size)).get? (hp.objs.size + 1) = some (PySem.HandSPX.excO C hp.objs.size) := by heap_get
  have I2 : Inv X pins σ (upd H (hp.objs.size + 1) (exo (hp.objs.size + 1) C none)) ⟨(hp.push (PySem.W.kdv_tup us)).push (PySem.HandSPX.excO C hp.objs.size), g, dr, tk, os⟩ :=
    I.laid (t' := tk) (a := hp.objs.size + 1) (o := exo (hp.objs.size + 1) C none) (h' := (hp.push (PySem.W.kdv_tup us)).push (PySem.HandSPX.excO C hp.objs.size)) kk hsz (exo_ok hget)
  have r2 : Vals (V.ref (hp.objs.size + 1) :: (vs ++ dvs)) (Value.ref (hp.objs.size + 1) :: (us ++ ds)) := .cons rfl (r.append hd)
  rw [hv] at r2
  have hl : (Value.ref (hp.objs.size + 1) :: us ++ ds).length = ["self", "value"].length := by
    have e := r2.length
    exact e.symm
  have hus : us.length ≤ sizeLine := by
    have e := r2.length
    simp only [List.length_cons, List.length_append, List.length_nil] at e
    rw [sizeLine_eq]
    omega
  refine wpAny_call (PySem.HandSPX.call_own F.excBase_ValueError (fun Y => PySem.HandSPX.refsVE_contains Y bm hbm) (I.kIn _ _ hC) (PySem.W.looks_findIn I.kIn E.iC) (fun self => PySem.W.bind_fn I.kIn self E.tI) hus
    (codeAny_mono (E.F.run _ X.stack _ _ ⟨Value.ref (hp.objs.size + 1) :: us, []⟩ (Value.ref (hp.objs.size + 1) :: (us ++ ds)) _ _ (fun _ _ _ => False) ((hr.mono hj).make C us []) (I2.env0.make C us []) (hb _ (Value.ref (hp.objs.size + 1) :: us) I2.kIn hl) r2 hq) fun r s' hq' => ?_))
  cases r with
  | error er => exact False.elim hq'
  | ok fl =>
    cases fl with
    | ret u =>
      obtain ⟨v', H', I3, rv, ev, q3⟩ := I2.after hq'
      subst ev
      exact ⟨rv, ⟨V.ref (hp.objs.size + 1), H', I3, rfl, q3⟩⟩
    | next => exact False.elim hq'
    | brk => exact False.elim hq'
    | cont => exact False.elim hq'
def tNew (C : Addr) (dvs : List V) (t : TA) : TE := fun σ H Q => t σ H fun vs H1 => ∃ v, vs ++ dvs = [v] ∧ ∀ a dx H2, Made H1 H2 C a dx v → Q (.ref a) H2
/-- C(e) -/
theorem pe_new1 (E : ErrN X.prog X.w X.K X.mg X.base x C fI fd) (hr : Room j X.A) (ha : PA X [e] ta) (hj : 2 ≤ j := by decide) (hg : Gl X x := by rfl) (hdb : (x == ("__debug__" : Str)) = false := by decide)
    (he : starEach [e] X.env = (false, eval e X.env) :: starEach [] X.env := by rfl) (hpl : (backTo pos (starEach [] X.env)).any (·.1) = false := by rfl) : PE X (.Call (.Name x p) [e] [] pos) (tNew C [] ta) := by
  refine ⟨fun pins s σ H Q I h => ?_⟩
  refine wpAny_Call_Name_kw (ld_glob I hg E.m ?_ hdb)
  refine PySem.W.callWith_K (h₀ := X.base) I.ok.mod.kin E.T.kC (thn (ha.run pos pins s σ H _ I h) fun us s1 ⟨vs, H1, I1, r1, v, ev, k⟩ => ⟨I1.kIn, ?_⟩) he hpl
  exact run_new E hr hj E.b1 .nil I1 r1 ev k
/-- C() -/
theorem pe_new0 (E : ErrN X.prog X.w X.K X.mg X.base x C fI fd) (hr : Room j X.A) (hj : 2 ≤ j := by decide) (hg : Gl X x := by rfl) (hdb : (x == ("__debug__" : Str)) = false := by decide) : PE X (.Call (.Name x p) [] [] pos) (tNew C [.non] tNil) := by
  refine ⟨fun pins s σ H Q I h => ?_⟩
  refine wpAny_Call_Name_kw (ld_glob I hg E.m ?_ hdb)
  obtain ⟨v, ev, k⟩ := h
  obtain ⟨ds, hd, hb⟩ := E.b0
  exact PySem.W.callWith_K0 I.kIn E.T.kC (run_new (us := []) E hr hj hb hd I .nil ev k)
def tNewK (C : Addr) (t : TA) : TE := fun σ H Q => t σ H fun zs H1 => ∃ v, zs = [v] ∧ ∀ a dx H2, Made H1 H2 C a dx v → Q (.ref a) H2
theorem run_newK {u : Value} {v : V} (E : ErrN X.prog X.w X.K X.mg X.base x C fI fd) (hr : Room j X.A) (hj : 2 ≤ j) (I : Inv X pins σ H s) (ru : RelV v u)
    (k : ∀ a dx H2, Made H H2 C a dx v → Q (.ref a) H2) : wpAny (model X.prog X.w) X.A (call (.ref C) [] [("value", u)]) (EP X pins σ Q) X.xe s := by
  obtain ⟨nm, q, N, bs, bm, sn, sub, ab, col, dd, k0, k1, k2, k3, k5, hC, hbm⟩ := E.T.cls
  obtain ⟨hp, g, dr, tk, os⟩ := s
  have hsz : hp.objs.size ≤ hp.objs.size + 1 := Nat.le_succ _
  have hn : H (hp.objs.size + 1) = none := I.hok.fresh hsz
  have hq := init_hq (Q := Q) (v := v) hn k
  have kk : ∀ b o, hp.get? b = some o → ((hp.push (PySem.W.kdv_tup [])).push (PySem.HandSPX.excO C hp.objs.size)).get? b = some o := fun b o e => Heap.get?_push_of_some _ (Heap.get?_push_of_some _ e)
  have hget : ((hp.push (PySem.W.kdv_tup [])).push (PySem.HandSPX.excO C hp.objs.size)).get? (hp.objs.size + 1) = some (PySem.HandSPX.excO C hp.objs.size) := by heap_get
  have I2 : Inv X pins σ (upd H (hp.objs.size + 1) (exo (hp.objs.size + 1) C none)) ⟨(hp.push (PySem.W.kdv_tup [])).push (PySem.HandSPX.excO C hp.objs.size), g, dr, tk, os⟩ :=
    I.laid (t' := tk) (a := hp.objs.size + 1) (o := exo (hp.objs.size + 1) C none) (h' := (hp.push (PySem.W.kdv_tup [])).push (PySem.HandSPX.excO C hp.objs.size)) kk hsz (exo_ok hget)
  have r2 : Vals [V.ref (hp.objs.size + 1), v] [Value.ref (hp.objs.size + 1), u] := .cons rfl (.cons ru .nil)
  refine wpAny_call (PySem.NX.call_kw F.excBase_ValueError (fun Y => PySem.HandSPX.refsVE_contains Y bm hbm) (I.kIn _ _ hC) (PySem.W.looks_findIn I.kIn E.iC) (fun self => PySem.W.bind_fn I.kIn self E.tI)
    (codeAny_mono (E.F.run _ X.stack _ _ ⟨[Value.ref (hp.objs.size + 1)], [("value", u)]⟩ [Value.ref (hp.objs.size + 1), u] _ _ (fun _ _ _ => False) ((hr.mono hj).make C [] [("value", u)]) (I2.env0.make C [] [("value", u)]) (E.bk _ _ _ I2.kIn) r2 hq) fun r s' hq' => ?_))
  cases r with
  | error er => exact False.elim hq'
  | ok fl =>
    cases fl with
    | ret u =>
      obtain ⟨v', H', I3, rv, ev, q3⟩ := I2.after hq'
      subst ev
      exact ⟨rv, ⟨V.ref (hp.objs.size + 1), H', I3, rfl, q3⟩⟩
    | next => exact False.elim hq'
    | brk => exact False.elim hq'
    | cont => exact False.elim hq'
/-- C(value = e) -/
theorem pe_newK {kws : List Keyword} {tk : TA} (E : ErrN X.prog X.w X.K X.mg X.base x C fI fd) (hr : Room j X.A) (hkw : PK X kws tk) (hj : 2 ≤ j := by decide) (hg : Gl X x := by rfl)
    (hall : (backToKw pos (keywordEach kws X.env)).all (·.1.isSome) = true := by rfl) (hks : (backToKw pos (keywordEach kws X.env)).filterMap (·.1) = (["value"] : List Str) := by rfl) (hdb : (x == ("__debug__" : Str)) = false := by decide)
    (hpl : ((backTo pos (starEach [] X.env)).any (·.1) || (backToKw pos (keywordEach kws X.env)).any (·.1.isNone)) = false := by rfl) : PE X (.Call (.Name x p) [] kws pos) (tNewK C tk) := by
  refine ⟨fun pins s σ H Q I h => ?_⟩
  refine wpAny_Call_Name_kw (ld_glob I hg E.m ?_ hdb)
  refine PySem.W.callWith_KW0 (h₀ := X.base) I.ok.mod.kin E.T.kC hall ?_ hpl
  refine thn (hkw.run pos pins s σ H _ I h) fun ws s2 ⟨zs, H2, I2, rz, v, ev, k⟩ => ⟨I2.kIn, ?_⟩
  rw [hks]
  subst ev
  cases rz with
  | cons ru rn =>
    cases rn
    exact run_newK E hr hj I2 ru k
/-- isinstance(e, c), e made -/
def rIsN (K : PySem.W.Frag) : List V → Hp → VK → Prop := fun xs H Q => ∃ (a D : Addr) (dd : Addr) (fs : List (Str × V)) (c : V) (cv : Value) (b : Bool), xs = [.ref a, c] ∧ H a = some (exo a D (some dd)) ∧ H dd = some (exd dd fs) ∧ L2.ExcC K D ∧ (∀ u, RelV c u → u = cv) ∧ PySem.W.kitOne K (.ref D) cv = some b ∧ Q (.bl b) H
theorem exo_inst {K : PySem.W.Frag} {P : Program} {w : World} {h : Heap} {a C dd : Addr} {fs : List (Str × V)} (hok : HOk P w H h) (ea : H a = some (exo a C (some dd))) (ed : H dd = some (exd dd fs)) :
    ∃ (oe od : Obj) (mA : Str → Option Value), PySem.W.InstAt h a oe C (some od) ∧ (∀ name, PySem.W.lookIn name od = some (mA name)) ∧ ∀ f, RelO (fs.lookup f) (mA f) := by
  obtain ⟨t1, hget⟩ := exo_at hok ea
  obtain ⟨mA, hns, hr⟩ := exd_at hok ed
  obtain ⟨od, ho, hl⟩ := lookIn_ns hns
  exact ⟨_, od, mA, ⟨hget, rfl, rfl, ho⟩, hl, hr⟩
theorem call_isN : CallR X (.builtin "isinstance") (rIsN X.K) := by
  intro pins s σ H xs us Q I r h
  obtain ⟨a, D, dd, fs, c, cv, b, rfl, ha, hdd, C, hcv, e, q⟩ := h
  cases r with
  | cons rx rr =>
    cases rr with
    | cons rt rr =>
      cases rr
      cases rx
      have ec := hcv _ rt
      subst ec
      obtain ⟨oe, od, mA, J, _, _⟩ := exo_inst (K := X.K) I.hok ha hdd
      obtain ⟨cd, hcd, _⟩ := PySem.W.any_some C.hd
      exact PySem.W.kia_one (PySem.W.kitx_exc (by rw [hcd]; rfl) C.hg C.hk C.hs C.ha C.hn C.ht C.hm) I.kIn J e (fun z => nomatch z) fun tk => ⟨.bl b, H, I.kept (t' := tk) fun _ _ z => z, rfl, q⟩
/-- e.f, e made -/
def tXn (K : PySem.W.Frag) (f : Str) (te : TE) : TE := fun σ H Q => te σ H fun x H1 => ∃ (a C dd : Addr) (fs : List (Str × V)) (v : V), x = .ref a ∧ H1 a = some (exo a C (some dd)) ∧ XfC K C ∧ PySem.W.findIn K (.ref C) f = some none ∧ H1 dd = some (exd dd fs) ∧ fs.lookup f = some v ∧ Q v H1
theorem pe_xn {n : Str} (he : PE X e te) (hb : attributeBase e n X.env (eval e X.env) = eval e X.env := by rfl) : PE X (.Attribute e n pos) (tXn X.K n te) := by
  refine ⟨fun pins s σ H Q I h => ?_⟩
  refine attr_of hb (thn (he.run pins s σ H _ I h) fun u s1 hh => ?_)
  obtain ⟨x, H1, I1, rx, a, C, dd, fs, v, ex, ha, T, hno, ea, l, q⟩ := hh
  subst ex
  obtain rfl : u = Value.ref a := rx
  obtain ⟨oe, od, mA, J, hl, hr⟩ := exo_inst (K := X.K) I1.hok ha ea
  obtain ⟨u, hu, ru⟩ := RelO.some_of (v := v) (o := mA n) (by rw [← l]; exact hr n)
  exact HandSPX.exc_get I1.kIn J T.ga T.gg T.exC (PySem.W.findObj_own T.hdC hno rfl (by rw [hl, hu])) (handed_of ru) ⟨v, H1, I1.tok _, ru, q⟩
end
end Kx
namespace Kx
open PySem PySem.Spec PyProof.Rows L2
/-- a class of errors without an __init__ of its own -/
structure ErrP (K : PySem.W.Frag) (mg : Str → Option Value) (x : Str) (C : Addr) (bmB : List Value) (B newId initId : String) : Prop where
  F : ExcBaseFacts B newId initId bmB
  q : PySem.W.excIn K C bmB newId = true
  m : mg x = some (.ref C)
  k : PySem.W.keepIn K (.ref C) = true
  ec : L2.ExcC K C
section
variable {X : Cx} {x : Str} {C : Addr} {p pos : Pos} {bmB : List Value} {B newId initId : String}
/-- C() -/
def tNewP (C : Addr) : TE := fun _ H Q => ∀ a, H a = none → Q (.ref a) (upd H a (ExO (.ref C) a))
theorem pe_exc0 (E : ErrP X.K X.mg x C bmB B newId initId) (hg : Gl X x := by rfl) (hdb : (x == ("__debug__" : Str)) = false := by decide) : PE X (.Call (.Name x p) [] [] pos) (tNewP C) := by
  refine ⟨fun pins s σ H Q I h => ?_⟩
  refine wpAny_Call_Name_kw (ld_glob I hg E.m ?_ hdb)
  refine PySem.W.callWith_K0 I.kIn E.k ?_
  show wpAny _ _ (call (.ref C) []) _ _ _
  obtain ⟨bm, N, nm, qn, bs, hdct, sn, sub, ab, col, dd, k0, k1, k2, k3, k5, mN, hC, hN, hni, T⟩ := exc_obj I.kIn E.q
  refine wpAny_call_exc_subT E.F T hC hN hni (fun h' a hm => ?_) (by show 0 ≤ sizeLine; exact Nat.zero_le _)
  have hn : H a = none := I.hok.gone hm.new
  obtain ⟨t, ht, _, _⟩ := hm.there
  exact ⟨.ref a, upd H a (ExO (.ref C) a), I.laidN hm.keeps hm.new hn (exO_ok ht ⟨rfl, rfl⟩ rfl rfl rfl (show 4 < 6 by decide)), rfl, h a hn⟩
/-- an error object of the class D at a -/
def ErrV (H : Hp) (a D : Addr) : Prop := (∃ dd fs, H a = some (exo a D (some dd)) ∧ H dd = some (exd dd fs)) ∨ H a = some (ExO (.ref D) a)
theorem ErrV.same {H H' : Hp} {a D : Addr} (h : ErrV H a D) (s : Same H H') : ErrV H' a D := by
  rcases h with ⟨dd, fs, e1, e2⟩ | e
  · exact .inl ⟨dd, fs, s _ _ e1, s _ _ e2⟩
  · exact .inr (s _ _ e)
def rIsA (K : PySem.W.Frag) : List V → Hp → VK → Prop := fun xs H Q => ∃ (a D : Addr) (c : V) (cv : Value) (b : Bool), xs = [.ref a, c] ∧ ErrV H a D ∧ L2.ExcC K D ∧ (∀ u, RelV c u → u = cv) ∧ PySem.W.kitOne K (.ref D) cv = some b ∧ Q (.bl b) H
theorem call_isA : CallR X (.builtin "isinstance") (rIsA X.K) := by
  intro pins s σ H xs us Q I r h
  obtain ⟨a, D, c, cv, b, rfl, hE, C, hcv, e, q⟩ := h
  cases r with
  | cons rx rr =>
    cases rr with
    | cons rt rr =>
      cases rr
      cases rx
      have ec := hcv _ rt
      subst ec
      have J : ∃ oe od, PySem.W.InstAt s.heap a oe D od := by
        rcases hE with ⟨dd, fs, e1, e2⟩ | e1
        · obtain ⟨oe, od, mA, J, _, _⟩ := exo_inst (K := X.K) I.hok e1 e2
          exact ⟨oe, some od, J⟩
        · obtain ⟨⟨oe, vs, ho, hz, hd, _⟩, _, _⟩ := I.hok a _ e1
          obtain ⟨oc, od, oda, osl⟩ := oe
          obtain ⟨h1, h2⟩ := hz
          dsimp only at h1 h2 hd
          subst h1 h2 hd
          exact ⟨_, none, ho, rfl, rfl, trivial⟩
      obtain ⟨oe, od, J⟩ := J
      obtain ⟨cd, hcd, _⟩ := PySem.W.any_some C.hd
      exact PySem.W.kia_one (PySem.W.kitx_exc (by rw [hcd]; rfl) C.hg C.hk C.hs C.ha C.hn C.ht C.hm) I.kIn J e (fun z => nomatch z) fun tk => ⟨.bl b, H, I.kept (t' := tk) fun _ _ z => z, rfl, q⟩
theorem kit_ref {K : PySem.W.Frag} {D C : Addr} {b : Bool} (h2 : PySem.W.isClsIn K C = true) (h3 : PySem.W.typeIn K (.ref C) = some (.type "type")) (hs : PySem.W.subIn K (.ref C) (.ref C) = some true) (h : PySem.W.subIn K (.ref D) (.ref C) = some b) : PySem.W.kitOne K (.ref D) (.ref C) = some b := by
  unfold PySem.W.kitOne
  by_cases e : D = C
  · subst e
    rw [h] at hs
    rw [if_pos (beq_self_eq_true _), hs]
  · rw [if_neg (by intro z; exact e (Value.ref.inj (beq_iff_eq.mp z)))]
    unfold PySem.W.kitCls
    have h2' : (PySem.W.clsIn K C).isSome = true := h2
    have e2 : ((PySem.W.clsIn K C).isSome && PySem.W.typeIn K (.ref C) == some (.type "type")) = true := by rw [h2', h3]; rfl
    show (if ((PySem.W.clsIn K C).isSome && PySem.W.typeIn K (.ref C) == some (.type "type")) = true then PySem.W.subIn K (.ref D) (.ref C) else none) = some b
    rw [if_pos e2, h]
theorem kit_ve {K : PySem.W.Frag} {D : Addr} (h : PySem.W.subIn K (.ref D) (.type "ValueError") = some true) : PySem.W.kitOne K (.ref D) (.type "ValueError") = some true := by
  unfold PySem.W.kitOne
  rw [if_neg (by intro z; cases (beq_iff_eq.mp z))]
  show (if PySem.W.kitMeta "ValueError" = true then PySem.W.subIn K (.ref D) (.type "ValueError") else none) = some true
  rw [if_pos (by decide +kernel), h]
end
end Kx

set_option Elab.async false
set_option linter.all false
set_option maxRecDepth 100000
set_option maxHeartbeats 4000000
set_option exponentiation.threshold 4000
namespace Kx
open PySem PySem.Spec PyProof.Rows L2
def strTimes (z : Str) (k : Int) : Str := if k < 1 then Str.empty else if (k == 1 || z.length == 0) = true then z else ⟨(List.replicate k.toNat z.cps).foldl (· ++ ·) #[]⟩
/-- a written text times a small count -/
def rMulS : R2 := fun x y H Q => ∃ (z : Str) (k : Int), x = .str z ∧ y = .int k ∧ 0 ≤ k ∧ k ≤ 100 ∧ z.length ≤ 100 ∧ (strTimes z k).length ≤ sizeLine ∧ Q (.str (strTimes z k)) H
theorem op_mulS {X : Cx} : OpR X (binaryOp .Mult) rMulS := by
  intro pins s σ H x y v u Q I rx ry h
  obtain ⟨z, k, rfl, rfl, h0, h1, h2, hl, q⟩ := h
  obtain ⟨t, rfl⟩ := rx
  obtain ⟨t2, rfl⟩ := ry
  have hmul : z.length * k.toNat ≤ 100 * 100 := Nat.mul_le_mul h2 (by omega)
  refine PySem.P.mul_str (by rw [decide_eq_false (by omega), decide_eq_false (by omega)]; rfl) (fun h3 _ => ?_) (fun _ _ => ?_) ?_
  · have : (2 ^ 63 - 1 : Int) / k ≥ (2 ^ 63 - 1) / 100 := by
      have e1 : (100 : Int) * ((2 ^ 63 - 1) / 100) ≤ 2 ^ 63 - 1 := by decide
      exact (Int.le_ediv_iff_mul_le (by omega)).mpr (Int.le_trans (Int.mul_le_mul_of_nonneg_left h1 (by decide)) (by decide))
    have e2 : ((2 ^ 63 - 1 : Int) / 100) = 92233720368547758 := by decide
    omega
  · show decide (_ > sizeLine) = false
    exact decide_eq_false (by rw [sizeLine_eq]; omega)
  · unfold strTimes at hl q
    split
    · rename_i hk
      rw [if_pos hk] at hl q
      exact ⟨hl, .str _, H, I.tok _, ⟨_, rfl⟩, q⟩
    · rename_i hk
      rw [if_neg hk] at hl q
      split
      · rename_i hk2
        rw [if_pos hk2] at hl q
        exact ⟨.str _, H, I, ⟨_, rfl⟩, q⟩
      · rename_i hk2
        rw [if_neg hk2] at hl q
        exact ⟨hl, .str _, H, I.tok _, ⟨_, rfl⟩, q⟩
end Kx
namespace Kx
open PySem PySem.Spec PyProof.Rows L2
/-- what the written part says of the classes, together -/
structure KitT (K : PySem.W.Frag) (Cs : List Addr) (S : Addr) : Prop where
  cc : ∀ (i j : Nat) (C D : Addr), Cs[i]? = some C → Cs[j]? = some D → PySem.W.kitOne K (.ref C) (.ref D) = some (decide (j = i))
  cs : ∀ C ∈ Cs, PySem.W.kitOne K (.ref C) (.ref S) = some true
  cv : ∀ C ∈ Cs, PySem.W.kitOne K (.ref C) (.type "ValueError") = some true
  sc : ∀ C ∈ Cs, PySem.W.kitOne K (.ref S) (.ref C) = some false
  sv : PySem.W.kitOne K (.ref S) (.type "ValueError") = some true
  ec : ∀ C ∈ Cs, L2.ExcC K C
  xf : ∀ C ∈ Cs, XfC K C
  nv : ∀ C ∈ Cs, PySem.W.findIn K (.ref C) "value" = some none
section
variable {K : PySem.W.Frag} {H : Hp}
theorem It.same {H' : Hp} {v : V} {d : PyData} (h : It K H v d) (s : Same H H') : It K H' v d := ⟨dp_same s _ _ h.dp, h.sh, h.nd, h.de, h.co, h.la, h.ok.same s⟩
theorem it_tup {p : Addr} {xs : List V} {ds : List PyData} (h : H p = some (.tup xs)) (hi : ItAll K H xs ds) (h1 : PyData.depthAll ds ≤ 9) (h2 : costAll ds ≤ 90000) : It K H (.ref p) (.tuple ds) := by
  obtain ⟨a1, a2, a3, a4, a5, a6, a7, a8⟩ := itAll_facts hi
  refine ⟨.tup (SqT.of h) a1, ?_, ?_, ?_, ?_, ?_, ⟨"tuple", tyS_tup h⟩⟩
  · simp only [PyData.showable]; exact a2
  · simp only [PyData.hasDict]; exact a3
  · simp only [PyData.depth]; omega
  · simp only [cost]; omega
  · simp only [PyData.canLay0]; exact a6
theorem it_lst {p : Addr} {xs : List V} {ds : List PyData} (h : H p = some (.lst xs)) (hi : ItAll K H xs ds) (h1 : PyData.depthAll ds ≤ 9) (h2 : costAll ds ≤ 90000) : It K H (.ref p) (.list ds) := by
  obtain ⟨a1, a2, a3, a4, a5, a6, a7, a8⟩ := itAll_facts hi
  refine ⟨.lst (SqL.of h) a1, ?_, ?_, ?_, ?_, ?_, ⟨"list", tyS_lst h⟩⟩
  · simp only [PyData.showable]; exact a2
  · simp only [PyData.hasDict]; exact a3
  · simp only [PyData.depth]; omega
  · simp only [cost]; omega
  · simp only [PyData.canLay0]; exact a6
theorem itAll_nats : ∀ ns : List Nat, (∀ n ∈ ns, n < 100) → ItAll K H (ns.map fun n : Nat => V.int (n : Int)) (ns.map fun n : Nat => PyData.int (n : Int)) ∧ PyData.depthAll (ns.map fun n : Nat => PyData.int (n : Int)) ≤ 1 ∧ costAll (ns.map fun n : Nat => PyData.int (n : Int)) ≤ 2000 * ns.length
  | [], _ => ⟨.nil, by simp only [List.map_nil, PyData.depthAll]; omega, by simp only [List.map_nil, costAll]; omega⟩
  | n :: ns, h => by
    obtain ⟨h1, h2, h3⟩ := itAll_nats ns fun m hm => h m (List.mem_cons_of_mem _ hm)
    have hn := h n (List.mem_cons_self ..)
    refine ⟨.cons (.int (n := 10) (by have : ((n : Int)).natAbs = n := Int.natAbs_natCast n
                                      omega) (by decide)) h1, ?_, ?_⟩
    · simp only [List.map_cons, PyData.depthAll, PyData.depth]; omega
    · simp only [List.map_cons, costAll, cost, List.length_cons]; omega
/-- two of one kind in a list, shown -/
theorem rp_two {L : Addr} {x y : V} {d e : PyData} (h : H L = some (.lst [x, y])) (hx : It K H x d) (hy : It K H y e) : Rp K H (.ref L) (.list [d, e]) := (val_lst h (.cons hx (.cons hy .nil)) (Nat.le_of_ble_eq_true rfl)).rp
theorem isAe {a D : Addr} {c : V} {cv : Value} {b : Bool} {Q : VK} (hE : ErrV H a D) (hX : L2.ExcC K D) (hc : ∀ u, RelV c u → u = cv) (hk : PySem.W.kitOne K (.ref D) cv = some b) (q : Q (.bl b) H) : rIsA K [.ref a, c] H Q := ⟨a, D, c, cv, b, rfl, hE, hX, hc, hk, q⟩
theorem xn_mk {a C dd : Addr} {v : V} (hx : XfC K C) (hn : PySem.W.findIn K (.ref C) "value" = some none) (ea : H a = some (exo a C (some dd))) (ed : H dd = some (exd dd [("value", v)])) {te : TE} {σ : SV} {Q : VK} (ht : te σ H (fun x H1 => x = .ref a ∧ H1 = H)) : True := trivial
end
theorem Made.err {H1 H2 : Hp} {C a dx : Addr} {v : V} (m : Made H1 H2 C a dx v) : ErrV H2 a C := .inl ⟨dx, _, m.ea, m.ed⟩
end Kx
namespace Kx
open PySem PySem.Spec PyProof.Rows L2
def LstAt (H : Hp) (p : Addr) (ns : List Nat) : Prop := H p = some (.lst (.int 1 :: .non :: ns.map fun n : Nat => V.int (n : Int))) ∧ ns.length ≤ 12 ∧ ∀ n ∈ ns, n < 100
/-- the value: what is no list stays, the list grows -/
def ValW (K : PySem.W.Frag) (H : Hp) (v : V) (i : Nat) : Prop := (∃ d t, It K H v d ∧ tyS H v = some t ∧ t ≠ "list" ∧ ∀ p, v = .ref p → ∃ xs, H p = some (.tup xs)) ∨ ∃ p ns, v = .ref p ∧ LstAt H p ns ∧ ns.length ≤ i
theorem valW_it {K : PySem.W.Frag} {H : Hp} {v : V} {i : Nat} (h : ValW K H v i) : ∃ d, It K H v d := by
  rcases h with ⟨d, t, hI, _⟩ | ⟨p, ns, rfl, ⟨e, hl, hb⟩, _⟩
  · exact ⟨d, hI⟩
  · obtain ⟨h1, h2, h3⟩ := itAll_nats (K := K) (H := H) ns hb
    refine ⟨_, it_lst e (.cons (.int (n := 10) (by decide) (by decide)) (.cons .non h1)) ?_ ?_⟩
    · simp only [PyData.depthAll, PyData.depth]; omega
    · simp only [costAll, cost]; omega
theorem kitB_list {K : PySem.W.Frag} {H : Hp} {v : V} {t : String} (h : tyS H v = some t) (hn : t ≠ "list") : kitB t "list" = some false := by
  have hm := (tyS_of (K := K) h).2.1
  simp only [List.mem_cons, List.not_mem_nil, or_false] at hm
  rcases hm with rfl | rfl | rfl | rfl | rfl | rfl | rfl
  · decide +kernel
  · decide +kernel
  · decide +kernel
  · decide +kernel
  · exact absurd rfl hn
  · decide +kernel
  · decide +kernel
end Kx
namespace Kx
open PySem PySem.Spec PyProof.Rows L2
theorem exo_lst {e C : Addr} {d : Option Addr} {xs : List V} : exo e C d ≠ .lst xs := fun z => by
  have z' : HO.ext _ = HO.lst xs := z
  cases z'
theorem exd_lst {e : Addr} {fs : List (Str × V)} {xs : List V} : exd e fs ≠ .lst xs := fun z => by
  have z' : HO.ext _ = HO.lst xs := z
  cases z'
theorem upd_lst {H : Hp} {p b : Addr} {xs : List V} {o o2 : HO} (h : H p = some (.lst xs)) (e : H b = some o2) (hne : o2 ≠ .lst xs) : L2.upd H p o b = some o2 := by
  rw [upd_ne (fun z => ?_)]
  · exact e
  · rw [z, h] at e
    exact hne (Option.some.inj e).symm
theorem ValW.same {K : PySem.W.Frag} {H H' : Hp} {v : V} {i : Nat} (h : ValW K H v i) (s : Same H H') : ValW K H' v i := by
  rcases h with ⟨d, t, hI, ht, hn, hx⟩ | ⟨p, ns, rfl, ⟨e, hl, hb⟩, hle⟩
  · exact .inl ⟨d, t, hI.same s, tyS_same s ht, hn, fun p e => by
      obtain ⟨xs, h⟩ := hx p e
      exact ⟨xs, s _ _ h⟩⟩
  · exact .inr ⟨p, ns, rfl, ⟨s _ _ e, hl, hb⟩, hle⟩
theorem look1 {v : V} : List.lookup ("value" : Str) [(("value" : Str), v)] = some v := by simp [List.lookup]
end Kx
namespace Kx
open PySem PySem.Spec PyProof.Rows L2
theorem bare_mk {K : PySem.W.Frag} {C : Addr} {σ : SV} {H : Hp} {Q : VK} (xf : XfC K C) (nv : PySem.W.findIn K (.ref C) "value" = some none) (k : ∀ H2, Same H H2 → Q .non H2) : tXn K "value" (tNew C [V.non] tNil) σ H Q :=
  ⟨.non, rfl, fun a dx H2 m => ⟨a, C, dx, _, .non, rfl, m.ea, xf, nv, m.ed, look1, k H2 m.sm⟩⟩
end Kx
namespace Kx
open PySem PySem.Spec PyProof.Rows L2
theorem eq_bools {K : PySem.W.Frag} {H : Hp} {a b : Addr} {Q : VK} (bs : List Bool) (h1 : H a = some (.lst (bs.map V.bl))) (h2 : H b = some (.lst (bs.map V.bl))) (q : Q (.bl true) H) : rEqD K (.ref a) (.ref b) H Q :=
  ⟨_, _, .lst (SqL.of h1) (dpAll_bools bs), .lst (SqL.of h2) (dpAll_bools bs), shaped_bools bs, shaped_bools bs, by rw [eqv_same (shaped_bools bs)]; exact q⟩
end Kx
namespace Kx
open PySem PySem.Spec PyProof.Rows L2
/-- the __init__ in a class's text -/
def initOf : Stmt → Stmt
  | .ClassDef (body := b) .. => b.getD 0 (.Pass ⟨0, 0, 0, 0⟩)
  | _ => .Pass ⟨0, 0, 0, 0⟩
/-- how the __init__ of an error binds -/
theorem init_binds {K : PySem.W.Frag} {qual : Str} {params : Arguments} {body : List Stmt} {scope : Scope} {f : Addr} {fd : FuncData} (F : FunD K "__init__" qual params body scope [V.non] [] f fd)
    (h1 : ∀ (T : Addr) (kV doc pm : Value) (an : Option Addr) (cdv ct u v d : Value), ∃ k, bindArgs (PySem.W.fnOf "__init__" qual params body scope (.ref T) kV doc pm an cdv ct) ⟨[u, v], []⟩ = seqItems? (.ref T) >>= k ∧ k (some [d].toArray) = pure ((["self", "value"] : List Str).zip [u, v]))
    (h0 : ∀ (T : Addr) (kV doc pm : Value) (an : Option Addr) (cdv ct u d : Value), ∃ k, bindArgs (PySem.W.fnOf "__init__" qual params body scope (.ref T) kV doc pm an cdv ct) ⟨[u], []⟩ = seqItems? (.ref T) >>= k ∧ k (some [d].toArray) = pure ((["self", "value"] : List Str).zip [u, d]))
    (hk : ∀ (T : Addr) (kV doc pm : Value) (an : Option Addr) (cdv ct u v d : Value), ∃ k, bindArgs (PySem.W.fnOf "__init__" qual params body scope (.ref T) kV doc pm an cdv ct) ⟨[u], [("value", v)]⟩ = seqItems? (.ref T) >>= k ∧ k (some [d].toArray) = pure ((["self", "value"] : List Str).zip [u, v])) :
    Binds K fd ["self", "value"] [] ∧ (∃ ds, Vals [V.non] ds ∧ Binds K fd ["self", "value"] ds) ∧ ∀ (s : Shared) (u v : Value), K.In s.heap → BindsTo s fd ⟨[u], [("value", v)]⟩ [("self", u), ("value", v)] := by
  refine ⟨?_, ?_, ?_⟩
  · obtain ⟨ds, hv, hb⟩ := F.binds1 (ps := ["self", "value"]) 2 1 (by simp) (by decide) (fun T kV doc pm an cdv ct us its l1 l2 => by
      match us, its, l1, l2 with
      | [u, v], [d], _, _ => exact h1 T kV doc pm an cdv ct u v d)
    cases hv
    exact hb
  · obtain ⟨ds, hv, hb⟩ := F.binds1 (ps := ["self", "value"]) 1 0 (by simp) (by decide) (fun T kV doc pm an cdv ct us its l1 l2 => by
      match us, its, l1, l2 with
      | [u], [d], _, _ => exact h0 T kV doc pm an cdv ct u d)
    exact ⟨ds, hv, hb⟩
  · obtain ⟨oc, od, dV, kV, doc, pm, an, cdv, ct, osl, rfl, lk, hcd, hD, hK⟩ := F.ex
    rcases hD with ⟨e, _⟩ | ⟨_, T, o, its, m, rfl, lT, oT, rT⟩
    · exact absurd e (by simp)
    · intro s u v X
      cases rT with
      | @cons _ d _ dr r1 r2 =>
        cases r2
        obtain ⟨k, e1, e2⟩ := hk T kV doc pm an cdv ct u v d
        refine BindsTo.of_looks fun M => ?_
        rw [e1]
        exact looks_items X lT oT (.of_pure e2)
/-- an error class's facts, by the written part's words -/
theorem errN_mk {P : Program} {w : World} {K : PySem.W.Frag} {mg : Str → Option Value} {base : Heap} {x : Str} {C fI : Addr} {fd : FuncData} (iC : PySem.W.findIn K (.ref C) "__init__" = some (some (.ref fI))) (tI : PySem.W.typeIn K (.ref fI) = some (.type "function"))
    (F : FnOk P w K mg base CX0 1 fI fd ["self", "value"] (spInit C)) (B : Binds K fd ["self", "value"] [] ∧ (∃ ds, Vals [V.non] ds ∧ Binds K fd ["self", "value"] ds) ∧ ∀ (s : Shared) (u v : Value), K.In s.heap → BindsTo s fd ⟨[u], [("value", v)]⟩ [("self", u), ("value", v)])
    (T : OexC K C) (m : mg x = some (.ref C)) (ga : PySem.W.findIn K (.ref C) "__getattribute__" = some (some (.builtin "BaseException.__getattribute__"))) (gg : PySem.W.findIn K (.ref C) "__getattr__" = some none)
    (hd : PySem.W.hasDictIn K C = true) (ec : L2.ExcC K C) (nv : PySem.W.findIn K (.ref C) "value" = some none) : ErrN P w K mg base x C fI fd :=
  ⟨iC, tI, F, B.1, B.2.1, B.2.2, T, m, ⟨ga, gg, T.exC, hd⟩, ec, nv⟩
end Kx

set_option Elab.async false
set_option linter.all false
set_option maxRecDepth 100000
set_option maxHeartbeats 4000000
set_option exponentiation.threshold 4000
/-! Defs that refuse. -/
namespace Kx
open PySem PySem.Spec PyProof.Rows L2
/-- an error of the class C with the value v may come -/
def Err (H : Hp) (E : XK) (C : Addr) (v : V) : Prop := ∀ d H', Same H H' → H' d = some (.xd [("value", v)]) → E (.ref C) (some d) H'
theorem Err.same {H H' : Hp} {E : XK} {C : Addr} {v : V} (h : Err H E C v) (s : Same H H') : Err H' E C v := fun d H2 s2 e => h d H2 (s.trans s2) e
theorem Err.now {H H1 : Hp} {E : XK} {C : Addr} {v : V} (h : Err H E C v) (s : Same H H1) : ∀ d, H1 d = none → E (.ref C) (some d) (L2.upd H1 d (.xd [("value", v)])) := fun d nd => h d _ (s.trans (Same.upd nd)) upd_same
/-- what comes of a call: it is let, or refused -/
inductive Oc where
  | ok
  | err (C : Addr) (v : V)
def Meets (H : Hp) (Q : VK) (E : XK) : Oc → Prop
  | .ok => ∀ r H', Same H H' → Q r H'
  | .err C v => Err H E C v
theorem Meets.same {H H' : Hp} {Q : VK} {E : XK} {o : Oc} (h : Meets H Q E o) (s : Same H H') : Meets H' Q E o := by
  cases o with
  | ok => exact fun r H2 s2 => h r H2 (s.trans s2)
  | err C v => exact Err.same h s
def ocM (CM : Addr) (x : V) (k : Int → Oc) : Oc := if measB x then (match x with | .int D => k D | _ => .ok) else .err CM x
def ocRoots (CR : Addr) (D : Int) (H : Hp) : List V → Oc → Oc
  | [], o => o
  | r :: rs, o => if rootB D H r then ocRoots CR D H rs o else .err CR r
/-- check_measure -/
def spCheckMeasureX (CM : Addr) : Sp := fun vs H Q E => ∃ x, vs = [x] ∧ OkItem H x ∧ (measB x = true → Q .non H) ∧ (measB x = false → Err H E CM x)
/-- _check: the measure, then the root numbers in their order -/
def spCheckX (CM CR : Addr) : Sp := fun vs H Q E => ∃ (x : V) (a : Addr) (rs : List V), vs = [x, .ref a] ∧ OkItem H x ∧ (∀ D, x = .int D → D < 2 ^ 1000) ∧ H a = some (.tup rs) ∧ (∀ r ∈ rs, OkV H r) ∧ Meets H Q E (ocM CM x fun D => ocRoots CR D H rs .ok)
theorem measB_get {x : V} (h : measB x = true) : ∃ D, x = .int D ∧ Meas D := by
  cases x with
  | int D =>
    rw [measB_int, Bool.and_eq_true, decide_eq_true_eq, decide_eq_true_eq] at h
    exact ⟨D, rfl, h⟩
  | _ => cases h
theorem rootB_get {D : Int} {H : Hp} {x : V} (h : rootB D H x = true) : ∃ a t, x = .ref a ∧ RootAt D H a t := by
  have hw : wholesB H 3 x = true := by
    unfold rootB at h
    exact (Bool.and_eq_true_iff.mp h).1
  obtain ⟨a, i, j, l, rfl, ha⟩ := wholes3 hw
  rw [rootB3 ha] at h
  simp only [Bool.and_eq_true, decide_eq_true_eq, Bool.or_eq_true, Bool.not_eq_true', decide_eq_false_iff_not] at h
  obtain ⟨h1, h2, h3⟩ := h
  have hp := gcdI_pos (a := gcdI i j) (show l ≠ 0 by omega)
  exact ⟨a, (i, j, l), rfl, ha, h1, show gcdI (gcdI i j) l = 1 by omega, h3⟩
theorem ocRoots_same {CR : Addr} {D : Int} {H H' : Hp} (s : Same H H') {o : Oc} : ∀ {rs : List V}, (∀ r ∈ rs, OkV H r) → ocRoots CR D H' rs o = ocRoots CR D H rs o
  | [], _ => rfl
  | r :: rs, h => by
    unfold ocRoots
    rw [rootB_same s (h r (List.mem_cons_self ..)).1, ocRoots_same s fun q hq => h q (List.mem_cons_of_mem _ hq)]
theorem ErrN.c {P : Program} {w : World} {K : PySem.W.Frag} {mg : Str → Option Value} {base : Heap} {x : Str} {C fI : Addr} {fd : FuncData} (E : ErrN P w K mg base x C fI fd) : ErrC P w K mg base x C := ⟨⟨fI, fd, E.iC, E.tI, E.F, E.b1⟩, E.T, E.m, E.xf, E.ec, E.nv⟩
end Kx
namespace Kx
open PySem PySem.Spec PyProof.Rows L2
theorem meets_roots0 {CR : Addr} {D : Int} {H H1 : Hp} {Q Q1 : VK} {E : XK} {o : Oc} (s : Same H H1) : ∀ {rs : List V}, (∀ r ∈ rs, OkV H r) → Meets H Q E (ocRoots CR D H rs o) → ((∀ r ∈ rs, rootB D H r = true) → Meets H Q E o → ∀ r H2, Same H1 H2 → Q1 r H2) → Meets H1 Q1 E (ocRoots CR D H1 rs .ok)
  | [], _, kk, k => fun r H2 s2 => k (fun r hr => absurd hr List.not_mem_nil) kk r H2 s2
  | r :: rs, hok, kk, k => by
    unfold ocRoots at kk ⊢
    rw [rootB_same s (hok r (List.mem_cons_self ..)).1]
    cases hb : rootB D H r with
    | true =>
      rw [if_pos hb] at kk
      rw [if_pos rfl]
      exact meets_roots0 s (fun q hq => hok q (List.mem_cons_of_mem _ hq)) kk fun h => k fun q hq => by
        rcases List.mem_cons.mp hq with rfl | hq
        · exact hb
        · exact h q hq
    | false =>
      rw [if_neg (by rw [hb]; decide)] at kk
      rw [if_neg (by decide)]
      exact Err.same kk s
theorem meets_roots {CM CR : Addr} {x : V} {H H1 : Hp} {Q Q1 : VK} {E : XK} {o : Int → Oc} {rs : List V} (s : Same H H1) (hok : ∀ r ∈ rs, OkV H r) (kk : Meets H Q E (ocM CM x fun D => ocRoots CR D H rs (o D)))
    (k : ∀ D, x = .int D → Meas D → (∀ r ∈ rs, rootB D H r = true) → Meets H Q E (o D) → ∀ r H2, Same H1 H2 → Q1 r H2) : Meets H1 Q1 E (ocM CM x fun D => ocRoots CR D H1 rs .ok) := by
  unfold ocM at kk ⊢
  cases hm : measB x with
  | true =>
    obtain ⟨D, rfl, hM⟩ := measB_get hm
    rw [if_pos hm] at kk
    rw [if_pos rfl]
    exact meets_roots0 s hok kk fun h => k D rfl hM h
  | false =>
    rw [if_neg (by rw [hm]; decide)] at kk
    rw [if_neg (by decide)]
    exact Err.same kk s
def zeroB (H : Hp) : V → Bool
  | .ref a => match H a with
    | some (.tup [.int x, .int y, .int _]) => decide (x = 0) && decide (y = 0)
    | _ => false
  | _ => false
theorem zeroB_at {H : Hp} {a : Addr} {D : Int} {t : Int × Int × Int} (h : RootAt D H a t) : zeroB H (.ref a) = (decide (t.1 = 0) && decide (t.2.1 = 0)) := by
  unfold zeroB
  simp only [h.1, rootV]
/-- what stands there is small -/
def SzV (H : Hp) (n : Nat) (o : V) : Prop := ∀ (a : Addr) (D : Int) (t : Int × Int × Int), o = .ref a → RootAt D H a t → Sz n t
structure Ask2 (H : Hp) (x o1 o2 : V) : Prop where
  ox : OkItem H x
  d : ∀ D : Int, x = .int D → D < 2 ^ 200
  v1 : OkV H o1
  v2 : OkV H o2
  z1 : SzV H 300 o1
  z2 : SzV H 300 o2
theorem Ask2.two {H : Hp} {x o1 o2 : V} (A : Ask2 H x o1 o2) {D : Int} (e : x = .int D) (hM : Meas D) (h : ∀ r ∈ [o1, o2], rootB D H r = true) : ∃ a b t u, o1 = .ref a ∧ o2 = .ref b ∧ Two D H a b t u 300 300 := by
  obtain ⟨a, t, rfl, ra⟩ := rootB_get (h o1 (by simp))
  obtain ⟨b, u, rfl, rb⟩ := rootB_get (h o2 (by simp))
  exact ⟨a, b, t, u, rfl, rfl, hM, A.d D e, ra, rb, A.z1 a D t rfl ra, A.z2 b D u rfl rb⟩
theorem Ask2.all {H : Hp} {x o1 o2 : V} (A : Ask2 H x o1 o2) : ∀ r ∈ [o1, o2], OkV H r := fun r hr => by
  simp only [List.mem_cons, List.not_mem_nil, or_false] at hr
  rcases hr with rfl | rfl
  · exact A.v1
  · exact A.v2
/-- root_plus, root_less, root_times -/
def spRoot2X (CM CR : Addr) : Sp := fun vs H Q E => ∃ x o1 o2 : V, vs = [x, o1, o2] ∧ Ask2 H x o1 o2 ∧ Meets H Q E (ocM CM x fun D => ocRoots CR D H [o1, o2] .ok)
def spRootOverX (CM CR : Addr) : Sp := fun vs H Q E => ∃ x o1 o2 : V, vs = [x, o1, o2] ∧ Ask2 H x o1 o2 ∧ Meets H Q E (ocM CM x fun D => ocRoots CR D H [o1, o2] (if zeroB H o2 then .err CR o2 else .ok))
/-- root_side, root_floor -/
def spRoot1X (CM CR : Addr) : Sp := fun vs H Q E => ∃ x o : V, vs = [x, o] ∧ OkItem H x ∧ (∀ D, x = .int D → D < 2 ^ 200) ∧ OkV H o ∧ SzV H 300 o ∧ Meets H Q E (ocM CM x fun D => ocRoots CR D H [o] .ok)
/-- is_root: the value may be anything -/
def spIsRootX (CM : Addr) : Sp := fun vs H Q E => ∃ x o : V, vs = [x, o] ∧ OkItem H x ∧ (∀ D, x = .int D → D < 2 ^ 200) ∧ OkV H o ∧ Meets H Q E (ocM CM x fun _ => .ok)
def ocNums (CN : Addr) : List V → Oc → Oc
  | [], o => o
  | r :: rs, o => if isIntV r then ocNums CN rs o else .err CN r
def isZero : V → Bool
  | .int i => decide (i = 0)
  | _ => false
def spRootNumberX (CM CN : Addr) : Sp := fun vs H Q E => ∃ x a b c : V, vs = [x, a, b, c] ∧ OkItem H x ∧ (∀ D, x = .int D → D < 2 ^ 200) ∧ (∀ r ∈ [a, b, c], OkItem H r ∧ ∀ i, r = .int i → i.natAbs < 2 ^ 300) ∧ Meets H Q E (ocM CM x fun _ => ocNums CN [a, b, c] (if isZero c then .err CN c else .ok))
end Kx
namespace Kx
open PySem PySem.Spec PyProof.Rows L2
/-- the doors of k05: the four sums, side, floor, is_root, root_number -/
def ocAsked (CM CR CN : Addr) (H : Hp) (k : Nat) (g : List V) : Oc :=
  let g0 := g.getD 0 .non; let g1 := g.getD 1 .non; let g2 := g.getD 2 .non; let g3 := g.getD 3 .non
  if k < 3 then ocM CM g0 fun D => ocRoots CR D H [g1, g2] .ok
  else if k = 3 then ocM CM g0 fun D => ocRoots CR D H [g1, g2] (if zeroB H g2 then .err CR g2 else .ok)
  else if k < 6 then ocM CM g0 fun D => ocRoots CR D H [g1] .ok
  else if k = 6 then ocM CM g0 fun _ => .ok
  else ocM CM g0 fun _ => ocNums CN [g1, g2, g3] (if isZero g3 then .err CN g3 else .ok)
/-- what may be handed in there -/
structure Hand (H : Hp) (k : Nat) (g : List V) : Prop where
  ln : (if k < 4 then 3 else if k < 7 then 2 else 4) ≤ g.length
  d : ∀ D : Int, g.getD 0 .non = .int D → D < 2 ^ 200
  v : ∀ x ∈ g, OkV H x ∧ SzV H 300 x ∧ ∀ i : Int, x = .int i → i.natAbs < 2 ^ 300
def spAskedX (CM CR CN : Addr) : Sp := fun vs H Q E => ∃ (k : Nat) (q : Addr) (g : List V), vs = [.int k, .ref q] ∧ k < 8 ∧ H q = some (.lst g) ∧ Hand H k g ∧ Meets H Q E (ocAsked CM CR CN H k g)
theorem zeroB_same {H H' : Hp} {x : V} (s : Same H H') (h : OkItem H x) : zeroB H' x = zeroB H x := by
  cases x with
  | ref a =>
    obtain ⟨o, ho⟩ := h.at
    unfold zeroB
    simp only [ho, s _ _ ho]
  | _ => rfl
theorem SzV.same {H H' : Hp} {n : Nat} {x : V} (h : SzV H n x) (hO : OkItem H x) (s : Same H H') : SzV H' n x := fun a D t e r => by
  subst e
  obtain ⟨o, ho⟩ := hO.at
  have := s _ _ ho
  rw [r.1] at this
  cases this
  exact h a D t rfl ⟨ho, r.2⟩
theorem Ask2.same {H H' : Hp} {x o1 o2 : V} (A : Ask2 H x o1 o2) (s : Same H H') : Ask2 H' x o1 o2 := ⟨A.ox.same s, A.d, A.v1.same s, A.v2.same s, A.z1.same A.v1.1 s, A.z2.same A.v2.1 s⟩
theorem meets_move {CM CR : Addr} {x : V} {H H1 : Hp} {Q : VK} {E : XK} {o o1 : Oc} {rs : List V} (s : Same H H1) (hok : ∀ r ∈ rs, OkV H r) (e : o1 = o) (kk : Meets H Q E (ocM CM x fun D => ocRoots CR D H rs o)) : Meets H1 Q E (ocM CM x fun D => ocRoots CR D H1 rs o1) := by
  subst e
  have ef : (fun D => ocRoots CR D H1 rs o1) = fun D => ocRoots CR D H rs o1 := funext fun D => ocRoots_same s hok
  rw [ef]
  exact kk.same s
end Kx
namespace Kx
open PySem PySem.Spec PyProof.Rows L2
theorem countU {y : V} {uy : Value} (ry : RelV y uy) : ∀ {ys : List V} {us : List Value}, Vals ys us → ys.all flatV = true → us.countP (eqU y) = ys.countP (fun z => eqV z y)
  | [], _, h, _ => by
    cases h
    rfl
  | z :: ys, _, h, f => by
    cases h with
    | cons r rs =>
      rw [List.all_cons, Bool.and_eq_true] at f
      rw [List.countP_cons, List.countP_cons, countU ry rs f.2, eqU_of r f.1]
/-- l.count(x), flat items -/
def rCountF (K : PySem.W.Frag) : V → List V → Hp → VK → Prop := fun x xs H Q => ∃ (a : Addr) (ys : List V) (y : V), x = .ref a ∧ xs = [y] ∧ SqL K H a ys ∧ flatV y = true ∧ ys.all flatV = true ∧ Q (.int (ys.countP (fun z => eqV z y) : Nat)) H
theorem mt_countF {X : Cx} : MtR X "list.count" (rCountF X.K) := by
  intro pins s σ H x xs v us Q I rx rxs h
  obtain ⟨a, ys, y, rfl, rfl, hs, fy, fys, q⟩ := h
  cases rx
  cases rxs with
  | cons ry rt =>
    rename_i uy ut
    cases rt
    obtain ⟨its, rv, ⟨⟨cls, dd, data, sl⟩, n, ho, hc, hdn, hd⟩, hlen⟩ := I.list hs
    simp only at hc hd
    subst hc hd
    refine call_meets PySem.F.slot_list_count ⟨_, ho, rfl⟩ PySem.F.entry_list_count (PySem.F.args_list_count_2 _ _)
      (SeqAt.list_countAt a its.toArray n dd sl uy (eqU y)) ⟨ho, fun u' hu' => mem_eqAt ry fy rv fys u' (by simpa using hu'), ?_⟩
    refine ⟨.int (ys.countP (fun z => eqV z y) : Nat), H, I.tok _, ⟨s.toks, ?_⟩, q⟩
    show Value.int ((its.toArray.toList.countP (eqU y) : Nat) : Int) s.toks = _
    rw [show its.toArray.toList = its from rfl, countU ry rv fys]
end Kx
namespace Kx
open PySem PySem.Spec PyProof.Rows L2
/-- what the law tells of a call: let, or the error's kind and value -/
def toldL (CM CR : Addr) : Oc → List V
  | .ok => [.str "let"]
  | .err C v => [.str (if C = CM then "measure" else if C = CR then "root" else "number"), v]
def spTold5 (CM CR CN : Addr) : Sp := fun vs H Q _ => ∃ (k : Nat) (q : Addr) (g : List V), vs = [.int k, .ref q] ∧ k < 8 ∧ H q = some (.lst g) ∧ Hand H k g ∧ ∀ L H', L ≠ sysModules → Same H H' → H' L = some (.lst (toldL CM CR (ocAsked CM CR CN H k g))) → Q (.ref L) H'
end Kx
namespace Kx
open PySem PySem.Spec PyProof.Rows L2
/-- what the written part says of three classes of errors under one -/
structure Kit3 (K : PySem.W.Frag) (C0 C1 C2 S : Addr) : Prop where
  ex : ∀ C ∈ [C0, C1, C2], PySem.W.exmOne K (.ref C) (.ref S) = some true
  kit : ∀ (i j : Nat) (C D : Addr), [C0, C1, C2][i]? = some C → [C0, C1, C2][j]? = some D → PySem.W.kitOne K (.ref C) (.ref D) = some (decide (j = i))
  kv : ∀ C ∈ [C0, C1, C2], PySem.W.kitOne K (.ref C) (.type "ValueError") = some true
  ec : ∀ C ∈ [C0, C1, C2], L2.ExcC K C
  xf : ∀ C ∈ [C0, C1, C2], XfC K C
  nv : ∀ C ∈ [C0, C1, C2], PySem.W.findIn K (.ref C) "value" = some none
def Oc.in3 (CM CR CN : Addr) : Oc → Prop
  | .ok => True
  | .err C _ => C ∈ [CM, CR, CN]
theorem ocM_in {CM CR CN : Addr} {x : V} {k : Int → Oc} (h : ∀ D, (k D).in3 CM CR CN) : (ocM CM x k).in3 CM CR CN := by
  unfold ocM
  split
  · split
    · exact h _
    · trivial
  · show CM ∈ [CM, CR, CN]
    simp
theorem ocRoots_in {CM CR CN : Addr} {D : Int} {H : Hp} {o : Oc} (ho : o.in3 CM CR CN) : ∀ rs : List V, (ocRoots CR D H rs o).in3 CM CR CN
  | [] => ho
  | r :: rs => by
    unfold ocRoots
    split
    · exact ocRoots_in ho rs
    · show CR ∈ [CM, CR, CN]
      simp
theorem ocNums_in {CM CR CN : Addr} {o : Oc} (ho : o.in3 CM CR CN) : ∀ rs : List V, (ocNums CN rs o).in3 CM CR CN
  | [] => ho
  | r :: rs => by
    unfold ocNums
    split
    · exact ocNums_in ho rs
    · show CN ∈ [CM, CR, CN]
      simp
theorem ocAsked_in {CM CR CN : Addr} {H : Hp} {k : Nat} {g : List V} : (ocAsked CM CR CN H k g).in3 CM CR CN := by
  unfold ocAsked
  dsimp only
  split
  · exact ocM_in fun D => ocRoots_in (o := .ok) True.intro _
  · split
    · refine ocM_in fun D => ocRoots_in ?_ _
      split
      · show CR ∈ [CM, CR, CN]
        simp
      · trivial
    · split
      · exact ocM_in fun D => ocRoots_in (o := .ok) True.intro _
      · split
        · exact ocM_in fun D => trivial
        · refine ocM_in fun D => ocNums_in ?_ _
          split
          · show CN ∈ [CM, CR, CN]
            simp
          · trivial
theorem isKe {K : PySem.W.Frag} {H : Hp} {a D dd : Addr} {fs : List (Str × V)} {c : V} {cv : Value} {b : Bool} {Q : VK} (e1 : H a = some (ExK (.ref D) (some dd) a)) (e2 : H dd = some (.xd fs)) (hX : L2.ExcC K D) (hc : ∀ u, RelV c u → u = cv) (hk : PySem.W.kitOne K (.ref D) cv = some b) (q : Q (.bl b) H) : rIsK K [.ref a, c] H Q := ⟨a, D, dd, fs, c, cv, b, rfl, e1, e2, hX, hc, hk, q⟩
end Kx

set_option Elab.async false
set_option linter.all false
set_option maxRecDepth 100000
set_option maxHeartbeats 4000000
set_option exponentiation.threshold 4000
/-! Odd values that are shown, a dict among them. -/
namespace Kx
open PySem PySem.Spec PyProof.Rows L2
/-- a new list stands behind all that the start brings -/
def tLstB (t : TA) : TE := fun σ H Q => t σ H fun xs H1 => xs.length ≤ sizeLine ∧ ∀ p, H1 p = none → p ≠ sysModules → Q (.ref p) (upd H1 p (.lst xs))
theorem pe_lstB {X : Cx} {es : List Expr} {t : TA} {pos : Pos} (h : PA X es t) : PE X (.List es pos) (tLstB t) := by
  refine ⟨fun pins s σ H Q I hq => ?_⟩
  refine wpAny_List_spliced (thn (h.run pos pins s σ H _ I hq) fun us s1 ⟨xs, H1, I1, r, z, q⟩ => ⟨by rw [← r.length]; exact z, ?_⟩)
  have hf : H1 s1.heap.objs.size = none := I1.hok.fresh (Nat.le_refl _)
  refine ⟨.ref s1.heap.objs.size, upd H1 s1.heap.objs.size (.lst xs), I1.laid (t' := s1.toks) (fun b u e => Heap.get?_push_of_some _ e) (Nat.le_refl _) ?_, rfl, q _ hf (Nat.ne_of_gt I1.big)⟩
  exact ⟨z, us, 0, r, Heap.get?_push_size _ rfl⟩
theorem dict0_reads {X : Cx} {pins : List (Addr × Obj)} {σ : SV} {H : Hp} {s : Shared} {a : Addr} (I : Inv X pins σ H s) (e : H a = some (.dK [])) : a ≠ sysModules ∧ Reads s.heap (.ref a) (.dict []) [a] := by
  obtain ⟨z, hd, vs, rel, o, es, ep, ho, hx, hdat, hk, hp, hn⟩ := dk_of I.hok e
  have hvs : vs = [] := by cases rel; rfl
  subst hvs
  have hes : es.toList = [] := by
    generalize es.toList = l at hp
    cases hp
    rfl
  refine ⟨by simpa using hd, ?_⟩
  exact Reads.dict (kvs := []) (as := []) (bs := []) ho hx.1 hdat (by rw [hes]; exact .nil) (by rw [hes]; exact .nil)
/-- what may be shown: plain data, the empty dict, a list of a text and it -/
inductive Dq (K : PySem.W.Frag) (H : Hp) : V → PyData → Prop
  | rp {x : V} {d : PyData} : Rp K H x d → Dq K H x d
  | dc {a : Addr} : H a = some (.dK []) → Dq K H (.ref a) (.dict [])
  | lc {L a : Addr} {z : Str} : L ≠ sysModules → H L = some (.lst [.str z, .ref a]) → H a = some (.dK []) → (reprText z).length ≤ 1000 → Dq K H (.ref L) (.list [.str z, .dict []])
  | lb {L a : Addr} {b : Bool} : L ≠ sysModules → H L = some (.lst [.bl b, .ref a]) → H a = some (.dK []) → Dq K H (.ref L) (.list [.bool b, .dict []])
theorem shown_lc {z : Str} (h : (reprText z).length ≤ 1000) : (PyData.list [.str z, .dict []]).shown.length ≤ sizeLine := by
  have e : (PyData.list [.str z, .dict []]).shown = listText [reprText z, (PyData.dict []).shown] := by simp only [PyData.shown, PyData.shownAll]
  rw [e]
  have h1 := listText_le [reprText z, (PyData.dict []).shown]
  rw [piled_cons, piled_cons] at h1
  have h2 : (PyData.dict []).shown.length = 2 := by decide +kernel
  have h3 : piled [] = 0 := rfl
  rw [sizeLine_eq]
  omega
theorem cr_reprQ {X : Cx} (gd : X.A.guards = some []) (hu : X.A.units + 64 < cLine) : CallR X (.builtin "repr") (fun vs H Q => ∃ (x : V) (d : PyData), vs = [x] ∧ Dq X.K H x d ∧ Q (.str d.shown) H) := by
  intro pins s σ H vs us Q I r h
  obtain ⟨x, d, rfl, hd, q⟩ := h
  cases hd with
  | rp R => exact cr_reprR gd hu pins s σ H _ us Q I r ⟨x, d, rfl, R, q⟩
  | @dc a e =>
    obtain ⟨u, rfl, rx⟩ := vals1 r
    cases rx
    obtain ⟨ne, rd⟩ := dict0_reads I e
    exact repr_of_reads' rd rfl (fun _ => by simpa using Ne.symm ne) gd (by simp only [PyData.depth, PyData.depthKv]; omega) (fun _ _ z => z) (fun h' t tk hk => ⟨.str _, H, I.kept hk, ⟨_, rfl⟩, q⟩) (by decide +kernel)
  | @lc L a z nL eL e hz =>
    obtain ⟨u, rfl, rx⟩ := vals1 r
    cases rx
    obtain ⟨ne, rd⟩ := dict0_reads I e
    obtain ⟨its, rv, ⟨o, n, ho, hc, _, hdt⟩, _⟩ := I.list (SqL.of eL)
    cases rv with
    | cons r1 r2 =>
      cases r2 with
      | cons r2 r3 =>
        cases r3
        obtain ⟨t, rfl⟩ := r1
        cases r2
        have rl : Reads s.heap (.ref L) (.list [.str z, .dict []]) (L :: ([] ++ ([a] ++ []))) := Reads.list ho hc hdt (.cons (.str z t) (.cons rd .nil))
        exact repr_of_reads' rl rfl (fun _ => by simp [Ne.symm ne, Ne.symm nL]) gd (by simp only [PyData.depth, PyData.depthKv, PyData.depthAll]; omega) (fun _ _ z => z) (fun h' t tk hk => ⟨.str _, H, I.kept hk, ⟨_, rfl⟩, q⟩) (shown_lc hz)
  | @lb L a b nL eL e =>
    obtain ⟨u, rfl, rx⟩ := vals1 r
    cases rx
    obtain ⟨ne, rd⟩ := dict0_reads I e
    obtain ⟨its, rv, ⟨o, n, ho, hc, _, hdt⟩, _⟩ := I.list (SqL.of eL)
    cases rv with
    | cons r1 r2 =>
      cases r2 with
      | cons r2 r3 =>
        cases r3
        cases r1
        cases r2
        have rl : Reads s.heap (.ref L) (.list [.bool b, .dict []]) (L :: ([] ++ ([a] ++ []))) := Reads.list ho hc hdt (.cons (.bool b) (.cons rd .nil))
        exact repr_of_reads' rl rfl (fun _ => by simp [Ne.symm ne, Ne.symm nL]) gd (by simp only [PyData.depth, PyData.depthKv, PyData.depthAll]; omega) (fun _ _ z => z) (fun h' t tk hk => ⟨.str _, H, I.kept hk, ⟨_, rfl⟩, q⟩) (by cases b <;> decide +kernel)
/-- an odd value's data -/
inductive Oq (K : PySem.W.Frag) (H : Hp) : V → PyData → Prop
  | it {x : V} {d : PyData} : It K H x d → Oq K H x d
  | dc {a : Addr} : H a = some (.dK []) → Oq K H (.ref a) (.dict [])
def DueT (z : Str) : Prop := (PyData.str z).showable = true ∧ (reprText z).length ≤ 1000 ∧ (PyData.str z).canLay0 = true
section
variable {K : PySem.W.Frag} {H H' : Hp} {x : V} {d : PyData}
theorem Oq.same (h : Oq K H x d) (s : Same H H') : Oq K H' x d := by
  cases h with
  | it i => exact .it (i.same s)
  | dc e => exact .dc (s _ _ e)
theorem Oq.dq (h : Oq K H x d) : Dq K H x d := by
  cases h with
  | it i => exact .rp ⟨i.dp, i.sh, i.nd, Nat.le_trans i.de (by decide), Nat.le_trans i.co (by decide)⟩
  | dc e => exact .dc e
theorem Oq.two {L : Addr} {z : Str} (h : Oq K H x d) (hz : DueT z) (nL : L ≠ sysModules) (e : H L = some (.lst [.str z, x])) : Dq K H (.ref L) (.list [.str z, d]) := by
  cases h with
  | it i => exact .rp (rp_two e (.str hz.1 (by simp only [cost]; exact Nat.le_trans hz.2.1 (by decide)) hz.2.2) i)
  | dc e2 => exact .lc nL e e2 hz.2.1
end
theorem Oq.twoB {K : PySem.W.Frag} {H : Hp} {x : V} {d : PyData} {L : Addr} {b : Bool} (h : Oq K H x d) (nL : L ≠ sysModules) (e : H L = some (.lst [.bl b, x])) : Dq K H (.ref L) (.list [.bool b, d]) := by
  cases h with
  | it i => exact .rp (rp_two e .bl i)
  | dc e2 => exact .lb nL e e2
/-- a value that is handed in where it may be refused -/
structure OddV (K : PySem.W.Frag) (H : Hp) (x : V) (d : PyData) : Prop where
  q : Oq K H x d
  ok : OkV H x
  z : SzV H 300 x
  i : ∀ i : Int, x = .int i → i.natAbs < 2 ^ 150
theorem OddV.same {K : PySem.W.Frag} {H H' : Hp} {x : V} {d : PyData} (h : OddV K H x d) (s : Same H H') : OddV K H' x d := ⟨h.q.same s, h.ok.same s, h.z.same h.ok.1 s, h.i⟩
end Kx
namespace Kx
open PySem PySem.Spec PyProof.Rows L2
theorem sml {n : Nat} (h : n ≤ 1000) : n ≤ sizeLine := Nat.le_of_lt (small1000 h)
/-- what stands behind the odd value -/
def BehOk (H : Hp) (b : V) : Prop := OkV H b ∧ SzV H 300 b ∧ ∀ i : Int, b = .int i → i.natAbs < 2 ^ 150
theorem BehOk.same {H H' : Hp} {b : V} (h : BehOk H b) (s : Same H H') : BehOk H' b := ⟨h.1.same s, h.2.1.same h.1.1 s, h.2.2⟩
/-- all doors refuse the odd value, whatever stands behind it -/
def spAllRefused (K : PySem.W.Frag) (CM CR CN : Addr) : Sp := fun vs H Q _ => ∃ (dr gv : Addr) (due : Str) (odd : V) (ks : List Nat) (g : List V) (d : PyData), vs = [.ref dr, .ref gv, .str due, odd] ∧ H dr = some (.lst (ks.map fun k : Nat => V.int (k : Int))) ∧ H gv = some (.lst g) ∧ g.length ≤ 4 ∧ (∀ k ∈ ks, k < 8) ∧ ks.length ≤ 8 ∧ DueT due ∧ OddV K H odd d ∧
  (∀ H' b, Same H H' → BehOk H' b → ∀ k ∈ ks, Hand H' k (g ++ [odd] ++ [b, b, b]) ∧ toldL CM CR (ocAsked CM CR CN H' k (g ++ [odd] ++ [b, b, b])) = [.str due, odd]) ∧ ∀ H', Same H H' → Q (.bl true) H'
theorem behOk_int {H : Hp} {i : Int} (h : i.natAbs < 2 ^ 150) : BehOk H (.int i) := ⟨okV_of (t := "int") rfl (by decide), fun a D t e => (by cases e), fun j e => (by cases e; exact h)⟩
theorem behOk_non {H : Hp} : BehOk H .non := ⟨okV_of (t := "NoneType") rfl (by decide), fun a D t e => (by cases e), fun j e => (by cases e)⟩
theorem behOk_tup3 {H : Hp} {p : Addr} {x y z : Int} (h : H p = some (.tup [.int x, .int y, .int z])) (hx : x.natAbs < 2 ^ 300) (hy : y.natAbs < 2 ^ 300) (hz : z.natAbs < 2 ^ 300) : BehOk H (.ref p) := by
  refine ⟨⟨⟨"tuple", tyS_tup h⟩, fun a xs e1 e2 y hy => ?_⟩, fun a D t e r => ?_, fun j e => by cases e⟩
  · cases e1
    rw [h] at e2
    cases e2
    simp only [List.mem_cons, List.not_mem_nil, or_false] at hy
    rcases hy with rfl | rfl | rfl <;> exact ⟨"int", rfl⟩
  · cases e
    have := r.1
    rw [h] at this
    obtain ⟨a1, a2, a3⟩ := t
    simp only [rootV, Option.some.injEq, HO.tup.injEq, List.cons.injEq, V.int.injEq, and_true] at this
    obtain ⟨rfl, rfl, rfl⟩ := this
    exact ⟨hx, hy, hz⟩
theorem OddV.beh {K : PySem.W.Frag} {H : Hp} {x : V} {d : PyData} (h : OddV K H x d) : BehOk H x := ⟨h.ok, h.z, h.i⟩
end Kx
namespace Kx
open PySem PySem.Spec PyProof.Rows L2
/-- an odd value that is no root number -/
def BadRoot (K : PySem.W.Frag) (D : Int) (H : Hp) (x : V) : Prop := ∃ d, OddV K H x d ∧ rootB D H x = false
theorem BadRoot.same {K : PySem.W.Frag} {D : Int} {H H' : Hp} {x : V} (h : BadRoot K D H x) (s : Same H H') : BadRoot K D H' x := by
  obtain ⟨d, h1, h2⟩ := h
  exact ⟨d, h1.same s, by rw [rootB_same s h1.ok.1]; exact h2⟩
section
variable {K : PySem.W.Frag} {D : Int} {H : Hp} {p : Addr} {xs : List V} {ds : List PyData}
theorem bad_non : BadRoot K D H .non := ⟨_, ⟨.it .non, okV_of (t := "NoneType") rfl (by decide), fun a D t e => (by cases e), fun j e => (by cases e)⟩, rootB_of (t := "NoneType") rfl (by decide)⟩
theorem bad_bl {b : Bool} : BadRoot K D H (.bl b) := ⟨_, ⟨.it .bl, okV_of (t := "bool") rfl (by decide), fun a D t e => (by cases e), fun j e => (by cases e)⟩, rootB_of (t := "bool") rfl (by decide)⟩
theorem bad_int {i : Int} (h : i.natAbs < 2 ^ 150) : BadRoot K D H (.int i) := ⟨_, ⟨.it (.int h (by decide)), okV_of (t := "int") rfl (by decide), fun a D t e => (by cases e), fun j e => (by cases e; exact h)⟩, rootB_of (t := "int") rfl (by decide)⟩
theorem bad_str {z : Str} (h : DueT z) : BadRoot K D H (.str z) := ⟨_, ⟨.it (.str h.1 (by simp only [cost]; exact Nat.le_trans h.2.1 (by decide)) h.2.2), okV_of (t := "str") rfl (by decide), fun a D t e => (by cases e), fun j e => (by cases e)⟩, rootB_of (t := "str") rfl (by decide)⟩
theorem bad_dict (h : H p = some (.dK [])) : BadRoot K D H (.ref p) := ⟨_, ⟨.dc h, okV_of (tyS_dK h) (by decide), fun a D t e r => (by cases e; exact absurd (h.symm.trans r.1) (by simp)), fun j e => (by cases e)⟩, rootB_of (tyS_dK h) (by decide)⟩
theorem bad_lst (h : H p = some (.lst xs)) (hi : ItAll K H xs ds) (h1 : PyData.depthAll ds ≤ 9) (h2 : costAll ds ≤ 90000) : BadRoot K D H (.ref p) := ⟨_, ⟨.it (it_lst h hi h1 h2), okV_of (tyS_lst h) (by decide), fun a D t e r => (by cases e; exact absurd (h.symm.trans r.1) (by simp)), fun j e => (by cases e)⟩, rootB_of (tyS_lst h) (by decide)⟩
theorem itAll_ok {vs : List V} (h : ItAll K H vs ds) : ∀ v ∈ vs, OkItem H v := (itAll_facts h).2.2.2.2.2.2.1
theorem szV_tup (h : H p = some (.tup xs)) (hz : ∀ i : Int, V.int i ∈ xs → i.natAbs < 2 ^ 300) : SzV H 300 (.ref p) := fun a D t e r => by
  cases e
  have := r.1
  rw [h] at this
  cases this
  exact ⟨hz _ (by simp [rootV]), hz _ (by simp [rootV]), hz _ (by simp [rootV])⟩
theorem odd_tup (h : H p = some (.tup xs)) (hi : ItAll K H xs ds) (h1 : PyData.depthAll ds ≤ 9) (h2 : costAll ds ≤ 90000) (hz : ∀ i : Int, V.int i ∈ xs → i.natAbs < 2 ^ 300) : OddV K H (.ref p) (.tuple ds) :=
  ⟨.it (it_tup h hi h1 h2), okV_tup h (itAll_ok hi), szV_tup h hz, fun j e => (by cases e)⟩
/-- a tuple of plain items but of another length or with a item that is no number -/
theorem bad_tup (h : H p = some (.tup xs)) (hi : ItAll K H xs ds) (h1 : PyData.depthAll ds ≤ 9) (h2 : costAll ds ≤ 90000) (hz : ∀ i : Int, V.int i ∈ xs → i.natAbs < 2 ^ 300) (hb : (decide ((xs.length : Int) = 3) && xs.all isIntV) = false) : BadRoot K D H (.ref p) :=
  ⟨_, odd_tup h hi h1 h2 hz, rootB_not (by rw [wholes_tup h]; exact hb)⟩
theorem bad_tri {x y z : Int} (h : H p = some (.tup [.int x, .int y, .int z])) (hx : x.natAbs < 2 ^ 300) (hy : y.natAbs < 2 ^ 300) (hz : z.natAbs < 2 ^ 300) (hb : (decide (1 ≤ z) && (decide (gcdI (gcdI x y) z ≤ 1) && (decide (y = 0) || !decide (Sq D)))) = false) : BadRoot K D H (.ref p) :=
  ⟨_, odd_tup h (.cons (.int hx (by decide)) (.cons (.int hy (by decide)) (.cons (.int hz (by decide)) .nil))) (Nat.le_of_ble_eq_true rfl) (Nat.le_of_ble_eq_true rfl) (fun i hi => by
    simp only [List.mem_cons, V.int.injEq, List.not_mem_nil, or_false] at hi
    rcases hi with rfl | rfl | rfl
    · exact hx
    · exact hy
    · exact hz), by rw [rootB3 h]; exact hb⟩
end
def spWrongRoots (K : PySem.W.Frag) : Sp := fun vs H Q _ => ∃ (D : Int) (r : Addr) (t : Int × Int × Int), vs = [.int D, .ref r] ∧ Meas D ∧ D < 2 ^ 200 ∧ RootAt D H r t ∧ Sz 251 t ∧ ∀ (L : Addr) (H' : Hp) (xs : List V), Same H H' → H' L = some (.lst xs) → (∀ x ∈ xs, BadRoot K D H' x) → Q (.ref L) H'
theorem bad_all {K : PySem.W.Frag} {D : Int} {H H' : Hp} {xs : List V} (h : ∀ x ∈ xs, BadRoot K D H x) (s : Same H H') : ∀ x ∈ xs, BadRoot K D H' x := fun x hx => (h x hx).same s
end Kx
namespace Kx
open PySem PySem.Spec PyProof.Rows L2
/-- what may stand among the arguments -/
def GOk (H : Hp) (x : V) : Prop := OkV H x ∧ SzV H 300 x ∧ ∀ i : Int, x = .int i → i.natAbs < 2 ^ 200
theorem GOk.same {H H' : Hp} {x : V} (h : GOk H x) (s : Same H H') : GOk H' x := ⟨h.1.same s, h.2.1.same h.1.1 s, h.2.2⟩
theorem BehOk.g {H : Hp} {x : V} (h : BehOk H x) : GOk H x := ⟨h.1, h.2.1, fun i e => up (h.2.2 i e) (by decide)⟩
theorem gOk_int {H : Hp} {i : Int} (h : i.natAbs < 2 ^ 200) : GOk H (.int i) := ⟨okV_of (t := "int") rfl (by decide), fun a D t e => (by cases e), fun j e => (by cases e; exact h)⟩
theorem gOk_root {H : Hp} {D : Int} {a : Addr} {t : Int × Int × Int} (h : RootAt D H a t) (z : Sz 300 t) : GOk H (.ref a) := ⟨h.okV, szV_tup h.1 (fun i hi => by
    simp only [rootV, List.mem_cons, V.int.injEq, List.not_mem_nil, or_false] at hi
    rcases hi with rfl | rfl | rfl
    · exact z.1
    · exact z.2.1
    · exact z.2.2), fun j e => (by cases e)⟩
theorem hand_of {H : Hp} {k : Nat} {l : List V} (hl : (if k < 4 then 3 else if k < 7 then 2 else 4) ≤ l.length) (h : ∀ x ∈ l, GOk H x) : Hand H k l := by
  refine ⟨hl, fun D e => ?_, fun x hx => ⟨(h x hx).1, (h x hx).2.1, fun i e => up ((h x hx).2.2 i e) (by decide)⟩⟩
  cases l with
  | nil => cases e
  | cons y r =>
    have := (h y (List.mem_cons_self ..)).2.2 D e
    omega
theorem hand4 {H : Hp} {k : Nat} {l : List V} (hl : 4 ≤ l.length) (h : ∀ x ∈ l, GOk H x) : Hand H k l := hand_of (by split <;> (try split) <;> omega) h
section
variable {K : PySem.W.Frag} {CM CR CN : Addr} {H : Hp}
theorem asked_m {x : V} {r : List V} (hx : measB x = false) (k : Nat) : ocAsked CM CR CN H k (x :: r) = .err CM x := by
  have h : ∀ f, ocM CM x f = .err CM x := fun f => by unfold ocM; rw [hx]; rfl
  unfold ocAsked
  simp only [List.getD_cons_zero, h]
  repeat' split
  all_goals rfl
theorem ocM_ok {D : Int} {f : Int → Oc} (hD : Meas D) : ocM CM (.int D) f = f D := by
  unfold ocM
  rw [measB_int, decide_eq_true hD.1, decide_eq_true hD.2]
  rfl
theorem ocRoots_bad {D : Int} {x : V} {r : List V} {o : Oc} (hx : rootB D H x = false) : ocRoots CR D H (x :: r) o = .err CR x := by
  unfold ocRoots
  rw [hx]
  rfl
theorem ocRoots_good {D : Int} {x : V} {r : List V} {o : Oc} (hx : rootB D H x = true) : ocRoots CR D H (x :: r) o = ocRoots CR D H r o := by
  rw [ocRoots, if_pos hx]
theorem ocNums_bad {x : V} {r : List V} {o : Oc} (hx : isIntV x = false) : ocNums CN (x :: r) o = .err CN x := by
  unfold ocNums
  rw [hx]
  rfl
theorem ocNums_good {i : Int} {r : List V} {o : Oc} : ocNums CN (.int i :: r) o = ocNums CN r o := by
  rw [ocNums, if_pos (show isIntV (.int i) = true from rfl)]
theorem asked_r1 {D : Int} {x : V} {r : List V} (hD : Meas D) (hx : rootB D H x = false) {k : Nat} (hk : k < 6) : ocAsked CM CR CN H k (.int D :: x :: r) = .err CR x := by
  unfold ocAsked
  simp only [List.getD_cons_zero, List.getD_cons_succ, ocM_ok hD, ocRoots_bad hx]
  repeat' split
  all_goals first | rfl | (exfalso; omega)
theorem asked_r2 {D : Int} {y x : V} {r : List V} (hD : Meas D) (hy : rootB D H y = true) (hx : rootB D H x = false) {k : Nat} (hk : k < 4) : ocAsked CM CR CN H k (.int D :: y :: x :: r) = .err CR x := by
  unfold ocAsked
  simp only [List.getD_cons_zero, List.getD_cons_succ, ocM_ok hD, ocRoots_good hy, ocRoots_bad hx]
  repeat' split
  all_goals first | rfl | (exfalso; omega)
theorem asked_n1 {D : Int} {x b c : V} {r : List V} (hD : Meas D) (hx : isIntV x = false) : ocAsked CM CR CN H 7 (.int D :: x :: b :: c :: r) = .err CN x := by
  unfold ocAsked
  simp only [List.getD_cons_zero, List.getD_cons_succ, ocM_ok hD, ocNums_bad hx]
  rfl
theorem asked_n2 {D i : Int} {x c : V} {r : List V} (hD : Meas D) (hx : isIntV x = false) : ocAsked CM CR CN H 7 (.int D :: .int i :: x :: c :: r) = .err CN x := by
  unfold ocAsked
  simp only [List.getD_cons_zero, List.getD_cons_succ, ocM_ok hD, ocNums_good, ocNums_bad hx]
  rfl
theorem asked_n3 {D i j : Int} {x : V} {r : List V} (hD : Meas D) (hx : isIntV x = false) : ocAsked CM CR CN H 7 (.int D :: .int i :: .int j :: x :: r) = .err CN x := by
  unfold ocAsked
  simp only [List.getD_cons_zero, List.getD_cons_succ, ocM_ok hD, ocNums_good, ocNums_bad hx]
  rfl
theorem Kit3.ne {S : Addr} (KT : Kit3 K CM CR CN S) : CR ≠ CM ∧ CN ≠ CM ∧ CN ≠ CR := by
  refine ⟨fun h => ?_, fun h => ?_, fun h => ?_⟩
  · have h1 := KT.kit 1 0 _ _ rfl rfl
    have h2 := KT.kit 0 0 _ _ rfl rfl
    rw [h, h2] at h1
    exact absurd h1 (by decide)
  · have h1 := KT.kit 2 0 _ _ rfl rfl
    have h2 := KT.kit 0 0 _ _ rfl rfl
    rw [h, h2] at h1
    exact absurd h1 (by decide)
  · have h1 := KT.kit 2 1 _ _ rfl rfl
    have h2 := KT.kit 1 1 _ _ rfl rfl
    rw [h, h2] at h1
    exact absurd h1 (by decide)
theorem told_m {x : V} : toldL CM CR (.err CM x) = [.str "measure", x] := by simp [toldL]
theorem told_r {x : V} (h : CR ≠ CM) : toldL CM CR (.err CR x) = [.str "root", x] := by simp [toldL, h]
theorem told_n {x : V} (h : CN ≠ CM) (h2 : CN ≠ CR) : toldL CM CR (.err CN x) = [.str "number", x] := by simp [toldL, h, h2]
/-- what _law_all_refused wants, from the outcome -/
theorem refused_mk {g : List V} {odd : V} {d : PyData} {ks : List Nat} {C : Addr} {due : Str} (hg : ∀ x ∈ g, GOk H x) (hO : OddV K H odd d) (oc : ∀ H' b, Same H H' → ∀ k ∈ ks, ocAsked CM CR CN H' k (g ++ [odd] ++ [b, b, b]) = .err C odd) (ht : toldL CM CR (.err C odd) = [.str due, odd]) :
    ∀ H' b, Same H H' → BehOk H' b → ∀ k ∈ ks, Hand H' k (g ++ [odd] ++ [b, b, b]) ∧ toldL CM CR (ocAsked CM CR CN H' k (g ++ [odd] ++ [b, b, b])) = [.str due, odd] := fun H' b s hb k hk => by
  refine ⟨hand4 (by simp only [List.length_append, List.length_cons, List.length_nil]; omega) (fun x hx => ?_), by rw [oc H' b s k hk, ht]⟩
  simp only [List.mem_append, List.mem_cons, List.not_mem_nil, or_false, or_self] at hx
  rcases hx with (hx | rfl) | rfl
  · exact (hg x hx).same s
  · exact (hO.same s).beh.g
  · exact hb.g
end
theorem due_m : DueT "measure" := ⟨by decide +kernel, by decide +kernel, by decide +kernel⟩
theorem due_r : DueT "root" := ⟨by decide +kernel, by decide +kernel, by decide +kernel⟩
theorem due_n : DueT "number" := ⟨by decide +kernel, by decide +kernel, by decide +kernel⟩
/-- an odd value that is no measure -/
def BadMeas (K : PySem.W.Frag) (H : Hp) (x : V) : Prop := ∃ d, OddV K H x d ∧ measB x = false
theorem BadMeas.same {K : PySem.W.Frag} {H H' : Hp} {x : V} (h : BadMeas K H x) (s : Same H H') : BadMeas K H' x := let ⟨d, h1, h2⟩ := h; ⟨d, h1.same s, h2⟩
/-- an odd value that is no number -/
def BadNum (K : PySem.W.Frag) (H : Hp) (x : V) : Prop := ∃ d, OddV K H x d ∧ isIntV x = false
theorem BadNum.same {K : PySem.W.Frag} {H H' : Hp} {x : V} (h : BadNum K H x) (s : Same H H') : BadNum K H' x := let ⟨d, h1, h2⟩ := h; ⟨d, h1.same s, h2⟩
theorem BadRoot.odd {K : PySem.W.Frag} {D : Int} {H : Hp} {x : V} (h : BadRoot K D H x) (hn : isIntV x = false) : BadNum K H x := let ⟨d, h1, _⟩ := h; ⟨d, h1, hn⟩
theorem BadRoot.meas {K : PySem.W.Frag} {D : Int} {H : Hp} {x : V} (h : BadRoot K D H x) (hn : measB x = false) : BadMeas K H x := let ⟨d, h1, _⟩ := h; ⟨d, h1, hn⟩
/-- two pairs beside each other -/
theorem ne_pair {K : PySem.W.Frag} {H : Hp} {a b : Addr} {x y u v : Int} {Q : VK} (h1 : H a = some (.tup [.int x, .int y])) (h2 : H b = some (.tup [.int u, .int v])) (q : Q (.bl (!(decide (x = u) && decide (y = v)))) H) : rNeD K (.ref a) (.ref b) H Q := by
  refine ⟨.tuple [.int x, .int y], .tuple [.int u, .int v], .tup (SqT.of h1) (.cons (.int _) (.cons (.int _) .nil)), .tup (SqT.of h2) (.cons (.int _) (.cons (.int _) .nil)), rfl, rfl, ?_⟩
  have e : PyData.eqv (.tuple [.int x, .int y]) (.tuple [.int u, .int v]) = (decide (x = u) && decide (y = v)) := by
    have hb : ∀ i j : Int, (i == j) = decide (i = j) := fun i j => by
      by_cases h : i = j
      · rw [decide_eq_true h, h]; simp
      · rw [decide_eq_false h]; simpa using h
    simp only [PyData.eqv, PyData.eqvAll, hb, Bool.and_true]
  rw [e]
  exact q
/-- the same data on both sides -/
theorem ne_data {K : PySem.W.Frag} {H : Hp} {a b : Addr} {d : PyData} {Q : VK} (h1 : Dp K H (.ref a) d) (h2 : Dp K H (.ref b) d) (hs : SeqAt.shaped d = true) (q : Q (.bl false) H) : rNeD K (.ref a) (.ref b) H Q := ⟨d, d, h1, h2, hs, hs, by rw [eqv_same hs]; exact q⟩
theorem eq_data {K : PySem.W.Frag} {H : Hp} {a b : Addr} {d : PyData} {Q : VK} (h1 : Dp K H (.ref a) d) (h2 : Dp K H (.ref b) d) (hs : SeqAt.shaped d = true) (q : Q (.bl true) H) : rEqD K (.ref a) (.ref b) H Q := ⟨d, d, h1, h2, hs, hs, by rw [eqv_same hs]; exact q⟩
end Kx
namespace Kx
open PySem PySem.Spec PyProof.Rows L2
theorem rg0 (n : Nat) : rgV 0 (n : Int) = (List.range n).map fun k : Nat => V.int (k : Int) := by
  unfold rgV
  rw [show ((n : Int) - 0).toNat = n by omega]
  refine List.map_congr_left fun k _ => ?_
  rw [Int.zero_add]
def InvL5 (a g : Addr) (D : Int) (po pt : Addr) (h : Hp) : Nat → SV → Hp → Prop := fun _ σ H2 => ∃ t5 t6 : Option V, σ = [some (.ref a), some (.ref g), some (.int D), some (.ref po), some (.ref pt), t5, t6, none, none, none, none, none, none] ∧ Same h H2
def InvL5i (a g : Addr) (D : Int) (po pt : Addr) (odd : V) (h : Hp) : Nat → SV → Hp → Prop := fun _ σ H2 => ∃ t6 : Option V, σ = [some (.ref a), some (.ref g), some (.int D), some (.ref po), some (.ref pt), some odd, t6, none, none, none, none, none, none] ∧ Same h H2
theorem mem_range_lt {n k : Nat} (h : k ∈ List.range n) : k < n := List.mem_range.mp h
theorem gOk_nil {H : Hp} : ∀ x ∈ ([] : List V), GOk H x := fun x hx => absurd hx List.not_mem_nil
theorem gOk_cons {H : Hp} {y : V} {l : List V} (h : GOk H y) (r : ∀ x ∈ l, GOk H x) : ∀ x ∈ y :: l, GOk H x := fun x hx => by
  rcases List.mem_cons.mp hx with rfl | hx
  · exact h
  · exact r x hx
end Kx
namespace Kx
open PySem PySem.Spec PyProof.Rows L2
section
variable {K : PySem.W.Frag} {CM CR CN : Addr} {H : Hp}
theorem asked_z {D : Int} (hD : Meas D) : ocAsked CM CR CN H 7 [.int D, .int 1, .int 1, .int 0] = .err CN (.int 0) := by
  unfold ocAsked
  simp only [List.getD_cons_zero, List.getD_cons_succ, ocM_ok hD, ocNums_good]
  rfl
theorem asked_nz {D : Int} (hD : Meas D) : ocAsked CM CR CN H 7 [.int D, .int 0, .int 0, .int (-1)] = .ok := by
  unfold ocAsked
  simp only [List.getD_cons_zero, List.getD_cons_succ, ocM_ok hD, ocNums_good]
  rfl
theorem asked_6 {D : Int} {x : V} (hD : Meas D) : ocAsked CM CR CN H 6 [.int D, x] = .ok := by
  unfold ocAsked
  simp only [List.getD_cons_zero, List.getD_cons_succ, ocM_ok hD]
  rfl
theorem asked_over0 {D : Int} {y x : V} (hD : Meas D) (hy : rootB D H y = true) (hx : rootB D H x = true) (hz : zeroB H x = true) : ocAsked CM CR CN H 3 [.int D, y, x] = .err CR x := by
  unfold ocAsked
  simp only [List.getD_cons_zero, List.getD_cons_succ, ocM_ok hD, ocRoots_good hy, ocRoots_good hx]
  simp [ocRoots, hz]
theorem asked_ok2 {D : Int} {y x : V} (hD : Meas D) (hy : rootB D H y = true) (hx : rootB D H x = true) (hz : zeroB H x = false) {k : Nat} (hk : k < 4) : ocAsked CM CR CN H k [.int D, y, x] = .ok := by
  unfold ocAsked
  simp only [List.getD_cons_zero, List.getD_cons_succ, ocM_ok hD, ocRoots_good hy, ocRoots_good hx]
  simp only [ocRoots, hz]
  repeat' split
  all_goals first | rfl | (exfalso; omega) | (exfalso; simp at *)
theorem asked_ok1 {D : Int} {y : V} (hD : Meas D) (hy : rootB D H y = true) {k : Nat} (hk : 4 ≤ k) (hk2 : k < 7) : ocAsked CM CR CN H k [.int D, y] = .ok := by
  unfold ocAsked
  simp only [List.getD_cons_zero, List.getD_cons_succ, ocM_ok hD, ocRoots_good hy]
  repeat' split
  all_goals first | rfl | (exfalso; omega)
theorem dpAll_rep {x : V} {d : PyData} (h : Dp K H x d) : ∀ n : Nat, DpAll K H (List.replicate n x) (List.replicate n d)
  | 0 => .nil
  | n + 1 => .cons h (dpAll_rep h n)
theorem dpAll_refs {d : PyData} : ∀ {ls : List Addr}, (∀ l ∈ ls, Dp K H (.ref l) d) → DpAll K H (ls.map V.ref) (List.replicate ls.length d)
  | [], _ => .nil
  | l :: ls, h => .cons (h l (List.mem_cons_self ..)) (dpAll_refs fun m hm => h m (List.mem_cons_of_mem _ hm))
end
theorem good_001 {D : Int} : Good D (0, 0, 1) := ⟨by decide, by decide, .inl rfl⟩
theorem good_101 {D : Int} : Good D (1, 0, 1) := ⟨by decide, by decide, .inl rfl⟩
theorem flat_rep {x : V} (n : Nat) : (List.replicate n [x]).flatten = List.replicate n x := by
  induction n with
  | zero => rfl
  | succ n ih => rw [List.replicate_succ, List.flatten_cons, ih]; rfl
/-- a list that grows, of addresses of equal lists -/
def InvRefs (h : Hp) (Dd : Addr) (ys : List V) : Nat → Hp → Prop := fun i H2 => Same h H2 ∧ ∃ ls : List Addr, H2 Dd = some (.lst (ls.map V.ref)) ∧ ls.length = i ∧ ∀ l ∈ ls, H2 l = some (.lst ys)
theorem refs_ne {ys : List V} {z : Str} {r : List V} (e : ys = .str z :: r) (ls : List Addr) : HO.lst ys ≠ HO.lst (ls.map V.ref) := fun h => by
  subst e
  have h2 := HO.lst.inj h
  cases ls with
  | nil => cases h2
  | cons l ls => cases h2
theorem InvRefs.push {h H2 H3 : Hp} {Dd L : Addr} {ys : List V} {z : Str} {r : List V} {i : Nat} (e : ys = .str z :: r) (hi : InvRefs h Dd ys i H2) (hD : h Dd = none) (s : Same H2 H3) (eL : H3 L = some (.lst ys)) (hle : i ≤ 900) : ∃ acc, H3 Dd = some (.lst acc) ∧ acc.length < sizeLine ∧ InvRefs h Dd ys (i + 1) (L2.upd H3 Dd (.lst (acc ++ [.ref L]))) := by
  obtain ⟨s2, ls, eD, el, hls⟩ := hi
  have eD3 := s _ _ eD
  refine ⟨_, eD3, small1000 (by rw [List.length_map]; omega), Same.upd2 (s2.trans s) hD, ls ++ [L], by rw [upd_same, List.map_append]; rfl, by rw [List.length_append, el]; rfl, fun l hl => ?_⟩
  rcases List.mem_append.mp hl with hl | hl
  · exact upd_lst eD3 (s _ _ (hls l hl)) (refs_ne e ls)
  · rw [List.mem_singleton] at hl
    subst hl
    exact upd_lst eD3 eL (refs_ne e ls)
end Kx
namespace Kx
open PySem PySem.Spec PyProof.Rows L2
/-- a list that grows by one and the same value -/
def InvRep (h : Hp) (Dd : Addr) (x : V) : Nat → Hp → Prop := fun i H2 => Same h H2 ∧ H2 Dd = some (.lst (List.replicate i x))
end Kx
namespace Kx
open PySem PySem.Spec PyProof.Rows L2
/-- what the written part says of some classes of errors under one -/
structure KitE (K : PySem.W.Frag) (Cs : List Addr) (S : Addr) : Prop where
  ex : ∀ C ∈ Cs, PySem.W.exmOne K (.ref C) (.ref S) = some true
  kit : ∀ (i j : Nat) (C D : Addr), Cs[i]? = some C → Cs[j]? = some D → PySem.W.kitOne K (.ref C) (.ref D) = some (decide (j = i))
  kv : ∀ C ∈ Cs, PySem.W.kitOne K (.ref C) (.type "ValueError") = some true
  ec : ∀ C ∈ Cs, L2.ExcC K C
  xf : ∀ C ∈ Cs, XfC K C
  nv : ∀ C ∈ Cs, PySem.W.findIn K (.ref C) "value" = some none
end Kx
namespace Kx
open PySem PySem.Spec PyProof.Rows L2
/-- [f, g, ..][i](e, ..), the frame named (within a try) -/
theorem pe_ixcallK {X : Cx} {W : WX} {j : Nat} {p pos : Pos} {a b e : Expr} {es : List Expr} {t : TA} {tf : TE} {P : Program} {w : World} {K : PySem.W.Frag} {mg : Str → Option Value} {base : Heap} (hP : X.prog = P) (hw : X.w = w) (hK : X.K = K) (hmg : X.mg = mg) (hb : X.base = base) (hf : PE X (.Subscript a b p) tf) (tk : Takes X W) (hr : Room j X.A) (ha : PA X (e :: es) t) (he : starEach (e :: es) X.env = (false, eval e X.env) :: starEach es X.env := by rfl) (hpl : (backTo pos (starEach es X.env)).any (·.1) = false := by rfl) :
    PE X (.Call (.Subscript a b p) (e :: es) [] pos) (tIxCall P w K mg base j (WE W) tf t) := by
  subst hP hw hK hmg hb
  exact pe_ixcall hf tk hr ha he hpl
end Kx
namespace Kx
open PySem PySem.Spec PyProof.Rows L2
theorem refsB_ne {ys : List V} {b : Bool} {r : List V} (e : ys = .bl b :: r) (ls : List Addr) : HO.lst ys ≠ HO.lst (ls.map V.ref) := fun h => by
  subst e
  have h2 := HO.lst.inj h
  cases ls with
  | nil => cases h2
  | cons l ls => cases h2
theorem InvRefs.pushB {h H2 H3 : Hp} {Dd L : Addr} {b : Bool} {r : List V} {i : Nat} (hi : InvRefs h Dd (.bl b :: r) i H2) (hD : h Dd = none) (s : Same H2 H3) (eL : H3 L = some (.lst (.bl b :: r))) (hle : i ≤ 900) : ∃ acc, H3 Dd = some (.lst acc) ∧ acc.length < sizeLine ∧ InvRefs h Dd (.bl b :: r) (i + 1) (L2.upd H3 Dd (.lst (acc ++ [.ref L]))) := by
  obtain ⟨s2, ls, eD, el, hls⟩ := hi
  have eD3 := s _ _ eD
  refine ⟨_, eD3, small1000 (by rw [List.length_map]; omega), Same.upd2 (s2.trans s) hD, ls ++ [L], by rw [upd_same, List.map_append]; rfl, by rw [List.length_append, el]; rfl, fun l hl => ?_⟩
  rcases List.mem_append.mp hl with hl | hl
  · exact upd_lst eD3 (s _ _ (hls l hl)) (refsB_ne rfl ls)
  · rw [List.mem_singleton] at hl
    subst hl
    exact upd_lst eD3 eL (refsB_ne rfl ls)
end Kx

set_option Elab.async false
set_option linter.all false
set_option maxRecDepth 100000
set_option maxHeartbeats 4000000
set_option exponentiation.threshold 4000
/-! Paths and their crossings. -/
namespace Kx
open PySem PySem.Spec PyProof.Rows L2
theorem small1K {n : Nat} (h : n ≤ 1000) : n < sizeLine := Nat.lt_of_le_of_lt h (by decide)
/-- a comprehension over two lists of one length -/
theorem lcW_zip {K : PySem.W.Frag} {a b Dd : Addr} {xs ys : List V} {g : TG} {tt : TT} {te : TE} {vs : List Nat} {σ : SV} {H : Hp} {Q : VK} (hl : xs.length = ys.length) (Pv : Nat → Hp → Prop) (h0 : Pv 0 (L2.upd H Dd (.lst [])))
    (hq : ∀ i H, Pv i H → SqL K H a xs ∧ SqL K H b ys)
    (hs : ∀ (i : Nat) (x y : V) (T : Addr) (H : Hp), xs[i]? = some x → ys[i]? = some y → Pv i H → H T = none → g (.ref T) (wipe σ vs) (L2.upd H T (.tup [x, y])) fun σ2 H2 => wipe σ2 vs = wipe σ vs ∧ tt σ2 H2 fun c H3 =>
      if c = true then te σ2 H3 fun v H4 => ∃ acc, H4 Dd = some (.lst acc) ∧ acc.length < sizeLine ∧ Pv (i + 1) (L2.upd H4 Dd (.lst (acc ++ [v]))) else Pv (i + 1) H3)
    (hd : ∀ H, Pv xs.length H → Q (.ref Dd) H) : LcW (Itz K a b) g tt te vs Dd σ H Q := by
  refine ⟨fun i m H => i + m = xs.length ∧ Pv i H, ⟨xs.length, by omega, h0⟩, fun i m H => ?_⟩
  rintro ⟨hm, p⟩
  obtain ⟨qa, qb⟩ := hq i H p
  rcases Nat.lt_or_ge i xs.length with hi | hi
  · have hx : xs[i]? = some xs[i] := List.getElem?_eq_getElem hi
    have hy : ys[i]? = some (ys[i]'(by omega)) := List.getElem?_eq_getElem (by omega)
    refine .inr ⟨⟨xs, ys, _, _, qa, qb, hx, hy⟩, Pv (i + 1), fun H' p' => ⟨xs.length - (i + 1), by omega, by omega, p'⟩, fun v H' w => ?_⟩
    obtain ⟨T, x, y, e1, hT, e2, f1, f2⟩ := w
    subst e1
    subst e2
    exact hs i x y T H (f1 xs qa) (f2 ys qb) p hT
  · obtain rfl : i = xs.length := by omega
    exact .inl ⟨⟨xs, ys, qa, qb, .inl (Nat.le_refl _)⟩, hd H p⟩
def crossZ (p r : Q4) : Int := p.1 * r.2.1 - p.2.1 * r.1 + p.2.2.1 * r.2.2.2 - p.2.2.2 * r.2.2.1
def rootZ (q t : Q4) : Q4 := (q.2.2.2 * t.1 + q.2.1 * t.2.2.1 + q.1 * t.2.2.2, q.2.2.2 * t.2.1 + q.2.2.1 * t.2.2.2, q.2.2.1 * t.1 - q.1 * t.2.1, q.2.1 * t.2.1)
def sumZ (p r : Q4) (n : Int) : Q4 := (p.1 + n * r.1, p.2.1 + n * r.2.1, p.2.2.1 + n * r.2.2.1, p.2.2.2 + n * r.2.2.2)
theorem ok_low {n : Int} (h : 1 ≤ n) : okQ (0, 1 + n, 1, 0 - 1) = true := by
  unfold okQ CutOk
  have hg1 : gcdI (1 + n) 1 = 1 := by unfold gcdI; simp
  simp only [Bool.and_eq_true, decide_eq_true_eq, hg1]
  exact ⟨by omega, by decide, by omega, by decide, by decide, by decide⟩
theorem cross_swap (p r : Q4) : crossZ p r = 0 - crossZ r p := by unfold crossZ; grind
theorem cross_self (p : Q4) : crossZ p p = 0 := by unfold crossZ; grind
theorem cross_sum (p r s : Q4) (n : Int) : crossZ (sumZ p r n) s = crossZ p s + n * crossZ r s := by unfold crossZ sumZ; grind
theorem root_sum (q p r : Q4) (n : Int) : rootZ q (sumZ p r n) = sumZ (rootZ q p) (rootZ q r) n := by
  unfold rootZ sumZ
  simp only [Prod.mk.injEq]
  refine ⟨?_, ?_, ?_, ?_⟩ <;> grind
def twiceZ (q l t : Q4) : Q4 := (q.2.2.2 * l.1 + q.2.1 * q.2.2.1 * t.1, q.2.2.2 * l.2.1 + q.2.1 * q.2.2.1 * t.2.1, q.2.2.2 * l.2.2.1 + q.2.1 * q.2.2.1 * t.2.2.1, q.2.2.2 * l.2.2.2 + q.2.1 * q.2.2.1 * t.2.2.2)
theorem root_twice (q t : Q4) : rootZ q (rootZ q t) = twiceZ q (rootZ q t) t := by
  unfold rootZ twiceZ
  simp only [Prod.mk.injEq]
  refine ⟨?_, ?_, ?_, ?_⟩ <;> grind
theorem root_cross (q t u : Q4) : crossZ (rootZ q t) u = crossZ t (rootZ q u) := by unfold crossZ rootZ; grind
theorem sz_mul {x y : Int} {n m k : Nat} (hx : x.natAbs < 2 ^ n) (hy : y.natAbs < 2 ^ m) (l : n + m ≤ k) : (x * y).natAbs < 2 ^ k := up (wide_lt hx hy) l
theorem cross_sz {p r : Q4} {n m : Nat} (z : Sz4 n p) (y : Sz4 m r) : (crossZ p r).natAbs < 2 ^ (n + m + 3) := by
  obtain ⟨z1, z2, z3, z4⟩ := z
  obtain ⟨y1, y2, y3, y4⟩ := y
  unfold crossZ
  exact sz_sub (sz_add (sz_sub (wide_lt z1 y2) (wide_lt z2 y1)) (up (wide_lt z3 y4) (by omega))) (up (wide_lt z4 y3) (by omega))
theorem root_sz {q t : Q4} {n m : Nat} (z : Sz4 n q) (y : Sz4 m t) : Sz4 (n + m + 2) (rootZ q t) := by
  obtain ⟨z1, z2, z3, z4⟩ := z
  obtain ⟨y1, y2, y3, y4⟩ := y
  unfold rootZ
  exact ⟨sz_add (sz_add (wide_lt z4 y1) (wide_lt z2 y3)) (up (wide_lt z1 y4) (by omega)), up (sz_add (wide_lt z4 y2) (wide_lt z3 y4)) (by omega), up (sz_sub (wide_lt z3 y1) (wide_lt z1 y2)) (by omega), up (wide_lt z2 y2) (by omega)⟩
theorem sum_sz {p r : Q4} {x : Int} {n m k : Nat} (z : Sz4 n p) (y : Sz4 m r) (hx : x.natAbs < 2 ^ k) (l : n ≤ m + k) : Sz4 (m + k + 1) (sumZ p r x) := by
  obtain ⟨z1, z2, z3, z4⟩ := z
  obtain ⟨y1, y2, y3, y4⟩ := y
  unfold sumZ
  rw [Nat.add_comm m k] at l ⊢
  exact ⟨sz_add (up z1 l) (wide_lt hx y1), sz_add (up z2 l) (wide_lt hx y2), sz_add (up z3 l) (wide_lt hx y3), sz_add (up z4 l) (wide_lt hx y4)⟩
/-! what stands in memory -/
def pathD (t : Q4) : PyData := .list [.int t.1, .int t.2.1, .int t.2.2.1, .int t.2.2.2]
def quadT (q : Q4) : PyData := .tuple [.int q.1, .int q.2.1, .int q.2.2.1, .int q.2.2.2]
section
variable {K : PySem.W.Frag} {H : Hp} {a b c L : Addr} {t u q : Q4} {Q : VK}
theorem dp_path (h : H a = some (.lst (cutV4 t))) : Dp K H (.ref a) (pathD t) := .lst (SqL.of h) (.cons (.int _) (.cons (.int _) (.cons (.int _) (.cons (.int _) .nil))))
theorem dp_quadT (h : H a = some (.tup (cutV4 q))) : Dp K H (.ref a) (quadT q) := .tup (SqT.of h) (.cons (.int _) (.cons (.int _) (.cons (.int _) (.cons (.int _) .nil))))
theorem shaped_path (t : Q4) : SeqAt.shaped (pathD t) = true := rfl
theorem ne_path (h1 : H a = some (.lst (cutV4 t))) (h2 : H b = some (.lst (cutV4 u))) (e : t = u) (q : Q (.bl false) H) : rNeD K (.ref a) (.ref b) H Q := by
  subst e
  exact ⟨_, _, dp_path h1, dp_path h2, rfl, rfl, by rw [eqv_same rfl]; exact q⟩
theorem eq_path (h1 : H a = some (.lst (cutV4 t))) (h2 : H b = some (.lst (cutV4 u))) (e : t = u) (q : Q (.bl true) H) : rEqD K (.ref a) (.ref b) H Q := by
  subst e
  exact ⟨_, _, dp_path h1, dp_path h2, rfl, rfl, by rw [eqv_same rfl]; exact q⟩
theorem path_show {n : Nat} (z : Sz4 n t) (l : n ≤ 1900) : (pathD t).showable = true := by
  simp only [pathD, PyData.showable, PyData.showableAll, log_sz z.1 l, log_sz z.2.1 l, log_sz z.2.2.1 l, log_sz z.2.2.2 l, decide_true, Bool.and_self]
theorem quad_show {n : Nat} (z : Sz4 n t) (l : n ≤ 1900) : (quadT t).showable = true := by
  simp only [quadT, PyData.showable, PyData.showableAll, log_sz z.1 l, log_sz z.2.1 l, log_sz z.2.2.1 l, log_sz z.2.2.2 l, decide_true, Bool.and_self]
theorem rp_path {n : Nat} (h : H a = some (.lst (cutV4 t))) (z : Sz4 n t) (l : n ≤ 1900) : Rp K H (.ref a) (pathD t) :=
  ⟨dp_path h, path_show z l, rfl, Nat.le_of_ble_eq_true rfl, Nat.le_of_ble_eq_true rfl⟩
theorem rp_ppc {n m l : Nat} (hL : H L = some (.lst [.ref a, .ref b, .ref c])) (h1 : H a = some (.lst (cutV4 t))) (h2 : H b = some (.lst (cutV4 u))) (h3 : H c = some (.tup (cutV4 q))) (z1 : Sz4 n t) (z2 : Sz4 m u) (z3 : Sz4 l q) (l1 : n ≤ 1900) (l2 : m ≤ 1900) (l3 : l ≤ 1900) :
    Rp K H (.ref L) (.list [pathD t, pathD u, quadT q]) where
  dp := .lst (SqL.of hL) (.cons (dp_path h1) (.cons (dp_path h2) (.cons (dp_quadT h3) .nil)))
  sh := by
    show (PyData.showableAll [pathD t, pathD u, quadT q]) = true
    simp only [PyData.showableAll, path_show z1 l1, path_show z2 l2, quad_show z3 l3, Bool.and_self]
  nd := rfl
  de := Nat.le_of_ble_eq_true rfl
  co := Nat.le_of_ble_eq_true rfl
theorem rp_wide {i : Int} {n : Nat} (h : i.natAbs < 2 ^ n) (l : n ≤ 1900) : Rp K H (.int i) (.int i) := ⟨.int i, by simp only [PyData.showable, log_sz h l, decide_true], rfl, Nat.le_of_ble_eq_true rfl, Nat.le_of_ble_eq_true rfl⟩
end
/-! promises -/
def spIsPath0 : Sp := fun vs H Q _ => ∃ (p : Addr) (t : Q4), vs = [.ref p] ∧ H p = some (.lst (cutV4 t)) ∧ ∀ H', Same H H' → Q (.bl true) H'
def spCheckPath0 : Sp := fun vs H Q _ => ∃ (p : Addr) (t : Q4), vs = [.ref p] ∧ H p = some (.lst (cutV4 t)) ∧ ∀ H', Same H H' → Q .non H'
def spCross : Sp := fun vs H Q _ => ∃ (p r : Addr) (t u : Q4), vs = [.ref p, .ref r] ∧ H p = some (.lst (cutV4 t)) ∧ H r = some (.lst (cutV4 u)) ∧ Sz4 900 t ∧ Sz4 900 u ∧ ∀ H', Same H H' → Q (.int (crossZ t u)) H'
def spRootPath : Sp := fun vs H Q _ => ∃ (p r : Addr) (q t : Q4), vs = [.ref p, .ref r] ∧ CutAt H p q ∧ H r = some (.lst (cutV4 t)) ∧ Sz4 900 q ∧ Sz4 900 t ∧ ∀ s H', H s = none → Same H H' → H' s = some (.lst (cutV4 (rootZ q t))) → Q (.ref s) H'
def spLawCross : Sp := fun vs H Q _ => ∃ (p r : Addr) (t u : Q4), vs = [.ref p, .ref r] ∧ H p = some (.lst (cutV4 t)) ∧ H r = some (.lst (cutV4 u)) ∧ Sz4 900 t ∧ Sz4 900 u ∧ Q (.int (crossZ t u)) H
def spLawRooted : Sp := fun vs H Q _ => ∃ (p r : Addr) (q t : Q4), vs = [.ref p, .ref r] ∧ H p = some (.tup (cutV4 q)) ∧ H r = some (.lst (cutV4 t)) ∧ Sz4 900 q ∧ Sz4 900 t ∧ ∀ s H', H s = none → Same H H' → H' s = some (.lst (cutV4 (rootZ q t))) → Q (.ref s) H'
def spLawPath : Sp := fun vs H Q _ => ∃ (g : Addr) (k : Nat), vs = [.ref g] ∧ GenAt H g k ∧ k ≤ 2 ^ 39 ∧ ∀ (t : Q4) (p : Addr) (H' : Hp), Sz4 80 t → H p = none → H' p = some (.lst (cutV4 t)) → GenAt H' g (k + 200) → Keep g H H' → Q (.ref p) H'
def spLawSum : Sp := fun vs H Q _ => ∃ (p r : Addr) (t u : Q4) (n : Int), vs = [.ref p, .ref r, .int n] ∧ H p = some (.lst (cutV4 t)) ∧ H r = some (.lst (cutV4 u)) ∧ Sz4 900 u ∧ n.natAbs < 2 ^ 100 ∧ ∀ s H', H s = none → Same H H' → H' s = some (.lst (cutV4 (sumZ t u n))) → Q (.ref s) H'
def spLawCut40 : Sp := fun vs H Q _ => ∃ (g : Addr) (n : Int) (k : Nat), vs = [.ref g, .int n] ∧ GenAt H g k ∧ k ≤ 2 ^ 39 ∧ 1 ≤ n ∧ n ≤ 10 ^ 15 ∧
  ∀ (q : Q4) (p : Addr) (H' : Hp), okQ q = true → Sz4 70 q → H p = none → H' p = some (.tup (cutV4 q)) → GenAt H' g (k + 7000) → Keep g H H' → Q (.ref p) H'
/-! loops -/
def InvWh (H : Hp) (D : Addr) (n : Nat) : Nat → Hp → Prop := fun i H2 => Same H H2 ∧ H2 D = some (.lst ((List.replicate n (V.bl true)).take i))
def InvDr (g Dd : Addr) (k b : Nat) (H : Hp) : Nat → Hp → Prop := fun j H2 => ∃ ns : List Int, H2 Dd = some (.lst (ns.map V.int)) ∧ ns.length = j ∧ (∀ n ∈ ns, n.natAbs < 2 ^ b) ∧ GenAt H2 g (k + 20 * j) ∧ Keep g H H2 ∧ Dd ≠ g
def InvTk (H : Hp) (D : Addr) (ys : List V) : Nat → Hp → Prop := fun i H2 => Same H H2 ∧ H2 D = some (.lst (ys.take i))
theorem InvTk.push {H H2 H3 : Hp} {D : Addr} {ys : List V} {y : V} {i : Nat} (z : InvTk H D ys i H2) (hD : H D = none) (s : Same H2 H3) (hy : ys[i]? = some y) (hl : ys.length ≤ 1000) : ∃ acc, H3 D = some (.lst acc) ∧ acc.length < sizeLine ∧ InvTk H D ys (i + 1) (L2.upd H3 D (.lst (acc ++ [y]))) := by
  refine ⟨_, s _ _ z.2, small1K (by rw [List.length_take]; omega), Same.upd2 (z.1.trans s) hD, ?_⟩
  rw [upd_same, List.take_succ, hy]
  rfl
end Kx
namespace Kx
open PySem PySem.Spec PyProof.Rows L2
def InvPs (g Dd : Addr) (k : Nat) (H : Hp) : Nat → Hp → Prop := fun j H2 => ∃ ps : List Addr, H2 Dd = some (.lst (ps.map V.ref)) ∧ ps.length = j ∧ (∀ p ∈ ps, p ≠ Dd ∧ p ≠ g ∧ ∃ t, H2 p = some (.lst (cutV4 t)) ∧ Sz4 80 t) ∧ GenAt H2 g (k + 200 * j) ∧ Keep g H H2 ∧ Dd ≠ g
theorem InvPs.push {g Dd p : Addr} {k j : Nat} {H H2 H3 : Hp} {t : Q4} (z : InvPs g Dd k H j H2) (hD : H Dd = none) (hj : j ≤ 100) (np : H2 p = none) (hp : H3 p = some (.lst (cutV4 t))) (zt : Sz4 80 t) (G : GenAt H3 g (k + 200 * j + 200)) (K : Keep g H2 H3) :
    ∃ acc, H3 Dd = some (.lst acc) ∧ acc.length < sizeLine ∧ InvPs g Dd k H (j + 1) (L2.upd H3 Dd (.lst (acc ++ [.ref p]))) := by
  obtain ⟨ps, eD, hl, hall, G2, K2, hDg⟩ := z
  have eD3 := K _ _ hDg eD
  refine ⟨_, eD3, small1K (by rw [List.length_map]; omega), ps ++ [p], by rw [upd_same, List.map_append]; rfl, by rw [List.length_append, hl]; rfl, fun q hq => ?_, (G.upd hDg).mono (by omega), (K2.trans K).upd hD, hDg⟩
  rcases List.mem_append.mp hq with hq | hq
  · obtain ⟨h1, h2, u, eu, zu⟩ := hall q hq
    exact ⟨h1, h2, u, by rw [upd_ne h1]; exact K _ _ h2 eu, zu⟩
  · rw [List.mem_singleton.mp hq]
    have h1 : p ≠ Dd := fun e => by rw [e, eD] at np; cases np
    exact ⟨h1, G2.nn np, t, by rw [upd_ne h1]; exact hp, zt⟩
def InvLC (g : Addr) (n : Int) (k : Nat) (H : Hp) : Nat → SV → Hp → Prop := fun i σ H2 => ∃ t2 t3 t4 t5 t6 t7 : Option V, σ = [some (.ref g), some (.int n), t2, t3, t4, t5, t6, t7] ∧ GenAt H2 g (k + 200 * i) ∧ Keep g H H2
def InvLaw40 (a : Addr) (H : Hp) : Nat → SV → Hp → Prop := fun _ σ H2 => ∃ t1 : Option V, σ = [some (.ref a), t1] ∧ Same H H2
end Kx

set_option Elab.async false
set_option linter.all false
set_option maxRecDepth 100000
set_option maxHeartbeats 4000000
set_option exponentiation.threshold 4000
namespace L40
open PySem PySem.Spec PyProof.Rows L2 Kx

def top (i : Nat) : Stmt := PySem.Challenge.pw_slitsheets_k40_paths_and_their_crossings.main.body.getD i (.Pass ⟨0, 0, 0, 0⟩)

abbrev s_IsWhole : Stmt := top 6

abbrev N_IsWhole : List Str := ["value"]

theorem scIsWhole : FnScope ["value"] ["value"] (defScope s_IsWhole) := ⟨rfl, rfl, rfl, by decide +kernel, rfl, by decide +kernel, by decide +kernel⟩

abbrev s_AreWholes : Stmt := top 7

abbrev N_AreWholes : List Str := ["value", "many", "item"]

theorem scAreWholes : FnScope ["value", "many", "item"] ["value", "many"] (defScope s_AreWholes) := ⟨rfl, rfl, rfl, by decide +kernel, rfl, by decide +kernel, by decide +kernel⟩

abbrev s_IsCutting : Stmt := top 9

abbrev N_IsCutting : List Str := ["value", "a", "b", "c", "e", "common"]

theorem scIsCutting : FnScope ["value", "a", "b", "c", "e", "common"] ["value"] (defScope s_IsCutting) := ⟨rfl, rfl, rfl, by decide +kernel, rfl, by decide +kernel, by decide +kernel⟩

abbrev s_CheckCutting : Stmt := top 10

abbrev N_CheckCutting : List Str := ["cutting"]

theorem scCheckCutting : FnScope ["cutting"] ["cutting"] (defScope s_CheckCutting) := ⟨rfl, rfl, rfl, by decide +kernel, rfl, by decide +kernel, by decide +kernel⟩

abbrev s_AreWithoutDivisor : Stmt := top 11

abbrev N_AreWithoutDivisor : List Str := ["one", "other", "third"]

theorem scAreWithoutDivisor : FnScope ["one", "other", "third"] ["one", "other", "third"] (defScope s_AreWithoutDivisor) := ⟨rfl, rfl, rfl, by decide +kernel, rfl, by decide +kernel, by decide +kernel⟩

abbrev s_Crossing : Stmt := top 13

abbrev N_Crossing : List Str := ["one", "other"]

theorem scCrossing : FnScope ["one", "other"] ["one", "other"] (defScope s_Crossing) := ⟨rfl, rfl, rfl, by decide +kernel, rfl, by decide +kernel, by decide +kernel⟩

abbrev s_RootPath : Stmt := top 14

abbrev N_RootPath : List Str := ["cutting", "path", "a", "b", "c", "e", "right", "up", "along", "aslant"]

theorem scRootPath : FnScope ["cutting", "path", "a", "b", "c", "e", "right", "up", "along", "aslant"] ["cutting", "path"] (defScope s_RootPath) := ⟨rfl, rfl, rfl, by decide +kernel, rfl, by decide +kernel, by decide +kernel⟩

abbrev s_IsPath : Stmt := top 15

abbrev N_IsPath : List Str := ["value", "item"]

theorem scIsPath : FnScope ["value", "item"] ["value"] (defScope s_IsPath) := ⟨rfl, rfl, rfl, by decide +kernel, rfl, by decide +kernel, by decide +kernel⟩

abbrev s_CheckPath : Stmt := top 16

abbrev N_CheckPath : List Str := ["path"]

theorem scCheckPath : FnScope ["path"] ["path"] (defScope s_CheckPath) := ⟨rfl, rfl, rfl, by decide +kernel, rfl, by decide +kernel, by decide +kernel⟩

abbrev s_LawHash : Stmt := top 18

abbrev N_LawHash : List Str := ["_law_seed", "_law_index", "_law_mixed"]

theorem scLawHash : FnScope ["_law_seed", "_law_index", "_law_mixed"] ["_law_seed", "_law_index"] (defScope s_LawHash) := ⟨rfl, rfl, rfl, by decide +kernel, rfl, by decide +kernel, by decide +kernel⟩

abbrev s_LawRandom : Stmt := top 19

abbrev N_LawRandom : List Str := ["_law_generator_here", "_law_bound", "_law_drawn", "_law_turn"]

theorem scLawRandom : FnScope ["_law_generator_here", "_law_bound", "_law_drawn", "_law_turn"] ["_law_generator_here", "_law_bound"] (defScope s_LawRandom) := ⟨rfl, rfl, rfl, by decide +kernel, rfl, by decide +kernel, by decide +kernel⟩

abbrev s_LawCell : Stmt := top 20

abbrev N_LawCell : List Str := ["_law_script", "_law_index"]

theorem scLawCell : FnScope ["_law_script", "_law_index"] ["_law_script", "_law_index"] (defScope s_LawCell) := ⟨rfl, rfl, rfl, by decide +kernel, rfl, by decide +kernel, by decide +kernel⟩

abbrev s_LawGenerator : Stmt := top 21

abbrev N_LawGenerator : List Str := ["_law_script", "_law_index", "_law_seed"]

theorem scLawGenerator : FnScope ["_law_script", "_law_index", "_law_seed"] ["_law_script", "_law_index"] (defScope s_LawGenerator) := ⟨rfl, rfl, rfl, by decide +kernel, rfl, by decide +kernel, by decide +kernel⟩

abbrev s_LawCommon : Stmt := top 22

abbrev N_LawCommon : List Str := ["_law_one", "_law_other", "_law_low", "_law_high"]

theorem scLawCommon : FnScope ["_law_one", "_law_other", "_law_low", "_law_high"] ["_law_one", "_law_other"] (defScope s_LawCommon) := ⟨rfl, rfl, rfl, by decide +kernel, rfl, by decide +kernel, by decide +kernel⟩

abbrev s_LawIsCutting : Stmt := top 23

abbrev N_LawIsCutting : List Str := ["_law_a", "_law_b", "_law_c", "_law_e"]

theorem scLawIsCutting : FnScope ["_law_a", "_law_b", "_law_c", "_law_e"] ["_law_a", "_law_b", "_law_c", "_law_e"] (defScope s_LawIsCutting) := ⟨rfl, rfl, rfl, by decide +kernel, rfl, by decide +kernel, by decide +kernel⟩

abbrev s_LawCutting : Stmt := top 24

abbrev N_LawCutting : List Str := ["_law_generator_here", "_law_most", "_law_turn", "_law_b", "_law_c", "_law_part", "_law_e", "_law_a"]

theorem scLawCutting : FnScope ["_law_generator_here", "_law_most", "_law_turn", "_law_b", "_law_c", "_law_part", "_law_e", "_law_a"] ["_law_generator_here", "_law_most"] (defScope s_LawCutting) := ⟨rfl, rfl, rfl, by decide +kernel, rfl, by decide +kernel, by decide +kernel⟩

abbrev s_LawCrossing : Stmt := top 25

abbrev N_LawCrossing : List Str := ["_law_one", "_law_other"]

theorem scLawCrossing : FnScope ["_law_one", "_law_other"] ["_law_one", "_law_other"] (defScope s_LawCrossing) := ⟨rfl, rfl, rfl, by decide +kernel, rfl, by decide +kernel, by decide +kernel⟩

abbrev s_LawRooted : Stmt := top 26

abbrev N_LawRooted : List Str := ["_law_cutting_here", "_law_path_here", "_law_a", "_law_b", "_law_c", "_law_e"]

theorem scLawRooted : FnScope ["_law_cutting_here", "_law_path_here", "_law_a", "_law_b", "_law_c", "_law_e"] ["_law_cutting_here", "_law_path_here"] (defScope s_LawRooted) := ⟨rfl, rfl, rfl, by decide +kernel, rfl, by decide +kernel, by decide +kernel⟩

abbrev s_LawPath : Stmt := top 27

abbrev N_LawPath : List Str := ["_law_generator_here", "_law_most", "_law_at"]

theorem scLawPath : FnScope ["_law_generator_here", "_law_most", "_law_at"] ["_law_generator_here"] (defScope s_LawPath) := ⟨rfl, rfl, rfl, by decide +kernel, rfl, by decide +kernel, by decide +kernel⟩

abbrev s_LawSum : Stmt := top 28

abbrev N_LawSum : List Str := ["_law_one", "_law_other", "_law_often", "_law_low", "_law_high"]

theorem scLawSum : FnScope ["_law_one", "_law_other", "_law_often", "_law_low", "_law_high"] ["_law_one", "_law_other", "_law_often"] (defScope s_LawSum) := ⟨rfl, rfl, rfl, by decide +kernel, rfl, by decide +kernel, by decide +kernel⟩

abbrev s_LawRight : Stmt := top 29

abbrev N_LawRight : List Str := ["_law_generator_here", "_law_cutting_here", "_law_one", "_law_other", "_law_third", "_law_kept", "_law_often", "_law_found", "_law_led", "_law_a", "_law_b", "_law_c", "_law_e", "_law_turn", "_law_low", "_law_high"]

theorem scLawRight : FnScope ["_law_generator_here", "_law_cutting_here", "_law_one", "_law_other", "_law_third", "_law_kept", "_law_often", "_law_found", "_law_led", "_law_a", "_law_b", "_law_c", "_law_e", "_law_turn", "_law_low", "_law_high"] ["_law_generator_here"] (defScope s_LawRight) := ⟨rfl, rfl, rfl, by decide +kernel, rfl, by decide +kernel, by decide +kernel⟩

abbrev s_Law : Stmt := top 30

abbrev N_Law : List Str := ["_law_script", "_law_index"]

theorem scLaw : FnScope ["_law_script", "_law_index"] ["_law_script"] (defScope s_Law) := ⟨rfl, rfl, rfl, by decide +kernel, rfl, by decide +kernel, by decide +kernel⟩

/-- what the top leaves of the names -/
structure Txt (K : PySem.W.Frag) (mg : Str → Option Value) : Prop where
  abs : mg "abs" = none
  all : mg "all" = none
  bool : mg "bool" = none
  int : mg "int" = none
  isinstance : mg "isinstance" = none
  len : mg "len" = none
  list : mg "list" = none
  max : mg "max" = none
  range : mg "range" = none
  repr : mg "repr" = none
  sum : mg "sum" = none
  tuple : mg "tuple" = none
  zip : mg "zip" = none
  gcd : mg "gcd" = some (.builtin "math.gcd")

section
variable {P : Program} {w : World} {K : PySem.W.Frag} {mg : Str → Option Value} {base : Heap}

theorem okLawHash {f : Addr} {fd : FuncData} (F : Fun K "_law_hash" "_law_hash" s_LawHash f fd) (T : Txt K mg) : FnOk P w K mg base CX0 1 f fd ["_law_seed", "_law_index"] (spHash) := by
  refine F.ok scLawHash (fun vs H Q E h => ?_) (fun cdv A outer s H vs Q E hr h => ?_)
  · obtain ⟨a, i, rfl, _⟩ := h
    rfl
  · obtain ⟨a, i, rfl, h0, h1, h2, h3, k⟩ := h
    refine ⟨_, (pss_cons (ps_set (i := 2) scLawHash.nd rfl (Or.inl rfl) (pe_op op_mod (pe_callTy cr_int (by rfl) T.int (by decide +kernel) (pa_cons (pe_op op_add (pe_op op_add (pe_op op_add (pe_op op_mulU (pv 0) pe_int) (pe_op op_mulU (pe_op op_mulU pe_int (pv 1)) (pv 1))) (pe_op op_mulU pe_int (pv 1))) pe_int) pa_nil)) pe_int))
        (pss_cons (ps_set (i := 2) scLawHash.nd rfl (Or.inl rfl) (pe_op op_mod (pe_callTy cr_int (by rfl) T.int (by decide +kernel) (pa_cons (pe_op op_add (pe_op op_add (pe_op op_mulU (pv 2) (pv 2)) (pe_op op_mulU pe_int (pv 1))) pe_int) pa_nil)) pe_int))
        (pss_one (ps_ret (pe_op op_mod (pe_callTy cr_int (by rfl) T.int (by decide +kernel) (pa_cons (pe_op op_mulU (pv 2) pe_int) pa_nil)) pe_int))))), ?_⟩
    have e0 : start N_LawHash [.int a, .int i] = [some (.int a), some (.int i), none] := rfl
    rw [e0]
    simp only [cxK, wipe, tYes, List.map_cons, List.map_nil, rIxL, rSum, tSl, rSlL, tNoPart, tPart, exists_and_left, and_assoc, V.ref.injEq, HO.lst.injEq, HO.tup.injEq, tFor_eq, iRng1, iRng2, iList, iTup, tLc_eq, tLst, tTup, gSub, rSetL, gT, gL, gTup, gCons, gNil, atI_0, atI_1, atI_2, atI_3, List.length_cons, List.length_nil, Nat.zero_add, Nat.reduceAdd, Nat.reduceLeDiff, ixN_30, ixN_31, ixN_32, Int.reduceLT, Int.reduceLE, Int.reduceNeg, upd_same, reduceCtorEq, false_and, exists_false, or_false, false_or, tSeq, tNext, tIfS, tRet, tRetN, tDrop, tAsg, gName, tPar, tPar3, tAug, ipI, tVar, tC, tOp, tUn, tCB, tD, tDK, tCons, tNil, rI, rI0, rU, tB, tTest, tCallS, tErr, tAnd, tOr, tNot, tAndV, tOrV, tNotV, tIf, rEq, rNe, scal_ii, scal_bb, scal_ss, rGcd_eq, tBits, List.set_cons_zero, List.set_cons_succ, List.getElem?_cons_zero, List.getElem?_cons_succ, Option.some.injEq, exists_eq_left', V.int.injEq, V.bl.injEq, V.str.injEq, true_and, and_true, decide_eq_true_eq, List.cons.injEq, exists_eq_left, Bool.false_eq_true, if_false, if_true, ite_true, ite_false, Bool.not_eq_true', decide_eq_false_iff_not, Bool.not_not]
    exact ⟨cmw (by omega) (by omega) (by omega) (by omega), cmw (by omega) (by omega) (by omega) (by omega), cmw (by omega) (by omega) (by omega) (by omega), cmw (by omega) (by omega) (by omega) (by omega), cmw (by omega) (by omega) (by omega) (by omega), cmw (by omega) (by omega) (by omega) (by omega), cmw (by omega) (by omega) (by omega) (by omega), k _ (by omega) (by omega)⟩

def InvRandom (g : Addr) (n : Int) (k : Nat) (H : Hp) : Nat → SV → Hp → Prop := fun i σ H2 => ∃ (d : Int) (t : Option V), σ = [some (.ref g), some (.int n), some (.int d), t] ∧ GenAt H2 g (k + i) ∧ Keep g H H2

theorem okLawRandom {f : Addr} {fd : FuncData} (F : Fun K "_law_random" "_law_random" s_LawRandom f fd) (T : Txt K mg) {fLawHash : Addr} {fdLawHash : FuncData} (D_LawHash : DefAt P w K mg base 1 "_law_hash" fLawHash fdLawHash ["_law_seed", "_law_index"] (spHash)) : FnOk P w K mg base CX0 2 f fd ["_law_generator_here", "_law_bound"] (spRandom) := by
  refine F.ok scLawRandom (fun vs H Q E h => ?_) (fun cdv A outer s H vs Q E hr h => ?_)
  · obtain ⟨g, n, k, rfl, _⟩ := h
    rfl
  · obtain ⟨g, n, k, rfl, hG, hk, hn1, hn2, kk⟩ := h
    obtain ⟨a, b, c, hg, ha0, ha1, hb0, hb1, hc0, hc1⟩ := id hG
    refine ⟨_, (pss_cons (ps_if (pt_cmpR op_gt (pe_ix ixL (pv 0) pe_int (fun _ _ => rfl)) pe_int (nomark _)) (pss_cons (ps_set (i := 2) scLawRandom.nd rfl (Or.inl rfl) (pe_op op_mod (pe_callTy cr_int (by rfl) T.int (by decide +kernel) (pa_cons (pe_ix ixL (pv 0) pe_int (fun _ _ => rfl)) pa_nil)) (pv 1)))
        (pss_cons (ps_asg (pe_op op_fdivX (pe_ix ixL (pv 0) pe_int (fun _ _ => rfl)) (pv 1)) (pg_sub (pv 0) pe_int set_list))
        (pss_one (ps_ret (pv 2))))) pss_nil)
        (pss_cons (ps_set (i := 2) scLawRandom.nd rfl (Or.inl rfl) pe_int)
        (pss_cons (ps_for PassesOwn.never rfl (pi_range1 rfl T.range (pa_cons (pe_op op_add pe_int (pe_op op_fdivX (pe_bits (pv 1)) pe_int)) pa_nil)) (pg_name (i := 3) scLawRandom.nd rfl (Or.inl rfl)) (pss_cons (ps_asg (pe_op op_add (pe_ix ixL (pv 0) pe_int (fun _ _ => rfl)) pe_int) (pg_sub (pv 0) pe_int set_list))
        (pss_one (ps_set (i := 2) scLawRandom.nd rfl (Or.inl rfl) (pe_op op_add (pe_op op_mulU (pv 2) pe_int) (pe_d D_LawHash hr (pa_cons (pe_ix ixL (pv 0) pe_int (fun _ _ => rfl)) (pa_cons (pe_ix ixL (pv 0) pe_int (fun _ _ => rfl)) pa_nil))))))))
        (pss_one (ps_ret (pe_op op_mod (pe_callTy cr_int (by rfl) T.int (by decide +kernel) (pa_cons (pv 2) pa_nil)) (pv 1))))))), ?_⟩
    have e0 : start N_LawRandom [.ref g, .int n] = [some (.ref g), some (.int n), none, none] := rfl
    rw [e0]
    simp only [cxK, wipe, tYes, List.map_cons, List.map_nil, rIxL, rSum, tSl, rSlL, tNoPart, tPart, exists_and_left, and_assoc, V.ref.injEq, HO.lst.injEq, HO.tup.injEq, tFor_eq, iRng1, iRng2, iList, iTup, tLc_eq, tLst, tTup, gSub, rSetL, gT, gL, gTup, gCons, gNil, atI_0, atI_1, atI_2, atI_3, List.length_cons, List.length_nil, Nat.zero_add, Nat.reduceAdd, Nat.reduceLeDiff, ixN_30, ixN_31, ixN_32, Int.reduceLT, Int.reduceLE, Int.reduceNeg, upd_same, reduceCtorEq, false_and, exists_false, or_false, false_or, tSeq, tNext, tIfS, tRet, tRetN, tDrop, tAsg, gName, tPar, tPar3, tAug, ipI, tVar, tC, tOp, tUn, tCB, tD, tDK, tCons, tNil, rI, rI0, rU, tB, tTest, tCallS, tErr, tAnd, tOr, tNot, tAndV, tOrV, tNotV, tIf, rEq, rNe, scal_ii, scal_bb, scal_ss, rGcd_eq, tBits, List.set_cons_zero, List.set_cons_succ, List.getElem?_cons_zero, List.getElem?_cons_succ, Option.some.injEq, exists_eq_left', V.int.injEq, V.bl.injEq, V.str.injEq, true_and, and_true, decide_eq_true_eq, List.cons.injEq, exists_eq_left, Bool.false_eq_true, if_false, if_true, ite_true, ite_false, Bool.not_eq_true', decide_eq_false_iff_not, Bool.not_not, hg]
    refine ite2 (fun hp => ?_) (fun hp => ?_)
    · refine ⟨by omega, cdiv (by omega) (by omega) (by omega), ?_⟩
      refine kk _ _ (Int.emod_nonneg _ (by omega)) (Int.emod_lt_of_pos _ (by omega)) ⟨a.fdiv n, b, c, upd_same, ?_, ?_, hb0, hb1, hc0, by omega⟩ (fun x u hx e => by rw [upd_ne hx]; exact e)
      · exact Int.fdiv_nonneg ha0 (by omega)
      · have h1 : a.fdiv n ≤ a := by
          rw [Int.fdiv_eq_ediv_of_nonneg a (by omega)]
          exact Int.ediv_le_self n ha0
        omega
    · have hib : Builtin.Int.intBits n ≤ 300 := PyProof.Rows.intBits_le (by omega)
      have hq : (0 : Int) ≤ (((Builtin.Int.intBits n : Nat) : Int).fdiv 30) ∧ (((Builtin.Int.intBits n : Nat) : Int).fdiv 30) ≤ 10 := by
        rw [Int.fdiv_eq_ediv_of_nonneg _ (by omega)]
        omega
      generalize hqe : (((Builtin.Int.intBits n : Nat) : Int).fdiv 30) = q at hq
      refine ⟨cdiv (by omega) (by omega) (by omega), by omega, by omega, ?_⟩
      refine forW_range (InvRandom g n k H) ⟨0, none, rfl, hG, Keep.refl _ _⟩ ?_ ?_
      · rintro i σ' H' hi ⟨d, t, rfl, ⟨a2, b2, c2, hg2, p1, p2, p3, p4, p5, p6⟩, kp⟩
        simp only [cxK, wipe, tYes, List.map_cons, List.map_nil, rIxL, rSum, tSl, rSlL, tNoPart, tPart, exists_and_left, and_assoc, V.ref.injEq, HO.lst.injEq, HO.tup.injEq, tFor_eq, iRng1, iRng2, iList, iTup, tLc_eq, tLst, tTup, gSub, rSetL, gT, gL, gTup, gCons, gNil, atI_0, atI_1, atI_2, atI_3, List.length_cons, List.length_nil, Nat.zero_add, Nat.reduceAdd, Nat.reduceLeDiff, ixN_30, ixN_31, ixN_32, Int.reduceLT, Int.reduceLE, Int.reduceNeg, upd_same, reduceCtorEq, false_and, exists_false, or_false, false_or, tSeq, tNext, tIfS, tRet, tRetN, tDrop, tAsg, gName, tPar, tPar3, tAug, ipI, tVar, tC, tOp, tUn, tCB, tD, tDK, tCons, tNil, rI, rI0, rU, tB, tTest, tCallS, tErr, tAnd, tOr, tNot, tAndV, tOrV, tNotV, tIf, rEq, rNe, scal_ii, scal_bb, scal_ss, rGcd_eq, tBits, List.set_cons_zero, List.set_cons_succ, List.getElem?_cons_zero, List.getElem?_cons_succ, Option.some.injEq, exists_eq_left', V.int.injEq, V.bl.injEq, V.str.injEq, true_and, and_true, decide_eq_true_eq, List.cons.injEq, exists_eq_left, Bool.false_eq_true, if_false, if_true, ite_true, ite_false, Bool.not_eq_true', decide_eq_false_iff_not, Bool.not_not, hg2]
        unfold spHash
        refine ⟨cmr (by decide) (by decide), b2, c2 + 1, rfl, p3, p4, by omega, by omega, fun hh q1 q2 => ?_⟩
        simp only [cxK, wipe, tYes, List.map_cons, List.map_nil, rIxL, rSum, tSl, rSlL, tNoPart, tPart, exists_and_left, and_assoc, V.ref.injEq, HO.lst.injEq, HO.tup.injEq, tFor_eq, iRng1, iRng2, iList, iTup, tLc_eq, tLst, tTup, gSub, rSetL, gT, gL, gTup, gCons, gNil, atI_0, atI_1, atI_2, atI_3, List.length_cons, List.length_nil, Nat.zero_add, Nat.reduceAdd, Nat.reduceLeDiff, ixN_30, ixN_31, ixN_32, Int.reduceLT, Int.reduceLE, Int.reduceNeg, upd_same, reduceCtorEq, false_and, exists_false, or_false, false_or, tSeq, tNext, tIfS, tRet, tRetN, tDrop, tAsg, gName, tPar, tPar3, tAug, ipI, tVar, tC, tOp, tUn, tCB, tD, tDK, tCons, tNil, rI, rI0, rU, tB, tTest, tCallS, tErr, tAnd, tOr, tNot, tAndV, tOrV, tNotV, tIf, rEq, rNe, scal_ii, scal_bb, scal_ss, rGcd_eq, tBits, List.set_cons_zero, List.set_cons_succ, List.getElem?_cons_zero, List.getElem?_cons_succ, Option.some.injEq, exists_eq_left', V.int.injEq, V.bl.injEq, V.str.injEq, true_and, and_true, decide_eq_true_eq, List.cons.injEq, exists_eq_left, Bool.false_eq_true, if_false, if_true, ite_true, ite_false, Bool.not_eq_true', decide_eq_false_iff_not, Bool.not_not]
        refine ⟨_, some (.int (0 + (i : Int))), rfl, ⟨a2, b2, c2 + 1, upd_same, p1, p2, p3, p4, by omega, by omega⟩, fun x u hx e => ?_⟩
        rw [upd_ne hx]
        exact kp x u hx e
      · rintro σ' H' ⟨d, t, rfl, gA, kp⟩
        simp only [cxK, wipe, tYes, List.map_cons, List.map_nil, rIxL, rSum, tSl, rSlL, tNoPart, tPart, exists_and_left, and_assoc, V.ref.injEq, HO.lst.injEq, HO.tup.injEq, tFor_eq, iRng1, iRng2, iList, iTup, tLc_eq, tLst, tTup, gSub, rSetL, gT, gL, gTup, gCons, gNil, atI_0, atI_1, atI_2, atI_3, List.length_cons, List.length_nil, Nat.zero_add, Nat.reduceAdd, Nat.reduceLeDiff, ixN_30, ixN_31, ixN_32, Int.reduceLT, Int.reduceLE, Int.reduceNeg, upd_same, reduceCtorEq, false_and, exists_false, or_false, false_or, tSeq, tNext, tIfS, tRet, tRetN, tDrop, tAsg, gName, tPar, tPar3, tAug, ipI, tVar, tC, tOp, tUn, tCB, tD, tDK, tCons, tNil, rI, rI0, rU, tB, tTest, tCallS, tErr, tAnd, tOr, tNot, tAndV, tOrV, tNotV, tIf, rEq, rNe, scal_ii, scal_bb, scal_ss, rGcd_eq, tBits, List.set_cons_zero, List.set_cons_succ, List.getElem?_cons_zero, List.getElem?_cons_succ, Option.some.injEq, exists_eq_left', V.int.injEq, V.bl.injEq, V.str.injEq, true_and, and_true, decide_eq_true_eq, List.cons.injEq, exists_eq_left, Bool.false_eq_true, if_false, if_true, ite_true, ite_false, Bool.not_eq_true', decide_eq_false_iff_not, Bool.not_not]
        exact ⟨by omega, kk _ _ (Int.emod_nonneg _ (by omega)) (Int.emod_lt_of_pos _ (by omega)) (gA.mono (by omega)) kp⟩

theorem okLawCell {f : Addr} {fd : FuncData} (F : Fun K "_law_cell" "_law_cell" s_LawCell f fd) (T : Txt K mg) : FnOk P w K mg base CX0 1 f fd ["_law_script", "_law_index"] (spCell K) := by
  refine F.ok scLawCell (fun vs H Q E h => ?_) (fun cdv A outer s H vs Q E hr h => ?_)
  · obtain ⟨a, ns, i, rfl, _⟩ := h
    rfl
  · obtain ⟨a, ns, i, rfl, hS, h0, h1, kk⟩ := h
    refine ⟨_, (pss_cons (ps_if (pt_cmpR op_lt (pv 1) (pe_callB call_len_seq (by rfl) T.len (by decide +kernel) (pa_cons (pv 0) pa_nil)) (nomark _)) (pss_one (ps_ret (pe_ix ix_list (pv 0) (pv 1) (fun _ _ => rfl)))) pss_nil)
        (pss_one (ps_ret (pe_op op_mod (pe_callB (cr_sum rfl) (by rfl) T.sum (by decide +kernel) (pa_cons (pe_slice sl_list (pv 0) po_none (po_some pe_int)) pa_nil)) pe_int)))), ?_⟩
    have e0 : start N_LawCell [.ref a, .int i] = [some (.ref a), some (.int i)] := rfl
    rw [e0]
    simp only [cxK, wipe, tYes, List.map_cons, List.map_nil, rIxL, rSum, tSl, rSlL, tNoPart, tPart, exists_and_left, and_assoc, V.ref.injEq, HO.lst.injEq, HO.tup.injEq, tFor_eq, iRng1, iRng2, iList, iTup, tLc_eq, tLst, tTup, gSub, rSetL, gT, gL, gTup, gCons, gNil, atI_0, atI_1, atI_2, atI_3, List.length_cons, List.length_nil, Nat.zero_add, Nat.reduceAdd, Nat.reduceLeDiff, ixN_30, ixN_31, ixN_32, Int.reduceLT, Int.reduceLE, Int.reduceNeg, upd_same, reduceCtorEq, false_and, exists_false, or_false, false_or, tSeq, tNext, tIfS, tRet, tRetN, tDrop, tAsg, gName, tPar, tPar3, tAug, ipI, tVar, tC, tOp, tUn, tCB, tD, tDK, tCons, tNil, rI, rI0, rU, tB, tTest, tCallS, tErr, tAnd, tOr, tNot, tAndV, tOrV, tNotV, tIf, rEq, rNe, scal_ii, scal_bb, scal_ss, rGcd_eq, tBits, List.set_cons_zero, List.set_cons_succ, List.getElem?_cons_zero, List.getElem?_cons_succ, Option.some.injEq, exists_eq_left', V.int.injEq, V.bl.injEq, V.str.injEq, true_and, and_true, decide_eq_true_eq, List.cons.injEq, exists_eq_left, Bool.false_eq_true, if_false, if_true, ite_true, ite_false, Bool.not_eq_true', decide_eq_false_iff_not, Bool.not_not]
    refine ⟨ns.map V.int, .inl hS, ite2 (fun hp => ?_) (fun hp => ?_)⟩
    · have hi : i.toNat < ns.length := by rw [List.length_map] at hp; omega
      refine ⟨ns.map V.int, hS, .int (ns[i.toNat]), ?_, kk _ _ (Same.refl _)⟩
      exact at_of (j := i.toNat) (by omega) (by rw [List.getElem?_map, List.getElem?_eq_getElem hi]; rfl)
    · refine ⟨ns.map V.int, hS, fun p np => ⟨ns.take 1, .inl (.inl ?_), kk _ _ (Same.upd np)⟩⟩
      rw [upd_same, cut1, List.map_take]

theorem okLawGenerator {f : Addr} {fd : FuncData} (F : Fun K "_law_generator" "_law_generator" s_LawGenerator f fd) (T : Txt K mg) {fLawCell : Addr} {fdLawCell : FuncData} (D_LawCell : DefAt P w K mg base 1 "_law_cell" fLawCell fdLawCell ["_law_script", "_law_index"] (spCell K)) : FnOk P w K mg base CX0 2 f fd ["_law_script", "_law_index"] (spGen K) := by
  refine F.ok scLawGenerator (fun vs H Q E h => ?_) (fun cdv A outer s H vs Q E hr h => ?_)
  · obtain ⟨a, ns, i, rfl, _⟩ := h
    rfl
  · obtain ⟨a, ns, i, rfl, hS, h0, h1, kk⟩ := h
    refine ⟨_, (pss_cons (ps_set (i := 2) scLawGenerator.nd rfl (Or.inl rfl) (pe_d D_LawCell hr (pa_cons (pv 0) (pa_cons (pv 1) pa_nil))))
        (pss_one (ps_ret (pe_lst (pa_cons (pe_op op_mod (pe_callTy cr_int (by rfl) T.int (by decide +kernel) (pa_cons (pe_callB (call_max2 rfl) (by rfl) T.max (by decide +kernel) (pa_cons (pe_op op_sub (pv 2) (pe_op op_powX pe_int pe_int)) (pa_cons pe_int pa_nil))) pa_nil)) (pe_op op_powX (pe_op op_powX pe_int pe_int) pe_int)) (pa_cons (pe_op op_mod (pe_callTy cr_int (by rfl) T.int (by decide +kernel) (pa_cons (pv 2) pa_nil)) pe_int) (pa_cons (pe_op op_mulU pe_int (pv 1)) pa_nil))))))), ?_⟩
    have e0 : start N_LawGenerator [.ref a, .int i] = [some (.ref a), some (.int i), none] := rfl
    rw [e0]
    simp only [cxK, wipe, tYes, List.map_cons, List.map_nil, rIxL, rSum, tSl, rSlL, tNoPart, tPart, exists_and_left, and_assoc, V.ref.injEq, HO.lst.injEq, HO.tup.injEq, tFor_eq, iRng1, iRng2, iList, iTup, tLc_eq, tLst, tTup, gSub, rSetL, gT, gL, gTup, gCons, gNil, atI_0, atI_1, atI_2, atI_3, List.length_cons, List.length_nil, Nat.zero_add, Nat.reduceAdd, Nat.reduceLeDiff, ixN_30, ixN_31, ixN_32, Int.reduceLT, Int.reduceLE, Int.reduceNeg, upd_same, reduceCtorEq, false_and, exists_false, or_false, false_or, tSeq, tNext, tIfS, tRet, tRetN, tDrop, tAsg, gName, tPar, tPar3, tAug, ipI, tVar, tC, tOp, tUn, tCB, tD, tDK, tCons, tNil, rI, rI0, rU, tB, tTest, tCallS, tErr, tAnd, tOr, tNot, tAndV, tOrV, tNotV, tIf, rEq, rNe, scal_ii, scal_bb, scal_ss, rGcd_eq, tBits, List.set_cons_zero, List.set_cons_succ, List.getElem?_cons_zero, List.getElem?_cons_succ, Option.some.injEq, exists_eq_left', V.int.injEq, V.bl.injEq, V.str.injEq, true_and, and_true, decide_eq_true_eq, List.cons.injEq, exists_eq_left, Bool.false_eq_true, if_false, if_true, ite_true, ite_false, Bool.not_eq_true', decide_eq_false_iff_not, Bool.not_not]
    have hm : (0 : Int) < (10 ^ Int.toNat 60) ^ Int.toNat 10 := by decide +kernel
    have hm2 : ((10 : Int) ^ Int.toNat 60) ^ Int.toNat 10 < 2 ^ 2000 := by decide +kernel
    have hm3 : -(2 ^ 2500) < (10 : Int) ^ Int.toNat 60 := by decide +kernel
    have hm4 : (10 : Int) ^ Int.toNat 60 < 2 ^ 2500 := by decide +kernel
    refine ⟨a, ns, i, rfl, hS, h0, h1, fun r H1 s1 => ⟨cpow (by decide) (by decide) (by decide) (by decide), r, rfl, cpow (by decide) (by decide) (by decide) (by decide), cpow (by decide) (by decide) hm3 hm4, hm, r, rfl, cml (by decide) (by decide), by decide, fun p np => ?_⟩⟩
    refine kk p _ (s1.free np) (s1.trans (Same.upd np)) ⟨_, _, _, upd_same, Int.emod_nonneg _ (by omega), Int.lt_trans (Int.emod_lt_of_pos _ hm) hm2, by omega, by omega, by omega, by omega⟩

def InvCommon (a b : Int) (H : Hp) : SV → Hp → Prop := fun σ H2 => ∃ x y : Int, σ = [some (.int a), some (.int b), some (.int x), some (.int y)] ∧ 0 ≤ x ∧ 0 ≤ y ∧ gcdI x y = gcdI a b ∧ H2 = H

theorem okLawCommon {f : Addr} {fd : FuncData} (F : Fun K "_law_common" "_law_common" s_LawCommon f fd) (T : Txt K mg) : FnOk P w K mg base CX0 1 f fd ["_law_one", "_law_other"] (spCommon) := by
  refine F.ok scLawCommon (fun vs H Q E h => ?_) (fun cdv A outer s H vs Q E hr h => ?_)
  · obtain ⟨a, b, rfl, _⟩ := h
    rfl
  · obtain ⟨a, b, rfl, kk⟩ := h
    refine ⟨_, (pss_cons (ps_par (i := 2) (j := 3) rfl scLawCommon.nd rfl rfl (by decide) rfl rfl (pa_cons (pe_callB call_abs (by rfl) T.abs (by decide +kernel) (pa_cons (pv 0) pa_nil)) (pa_cons (pe_callB call_abs (by rfl) T.abs (by decide +kernel) (pa_cons (pv 1) pa_nil)) pa_nil)) rfl)
        (pss_cons (ps_while PassesOwn.never (pt_cmpR op_gt (pv 3) pe_int (nomark _)) (pss_one (ps_par (i := 2) (j := 3) rfl scLawCommon.nd rfl rfl (by decide) rfl rfl (pa_cons (pv 3) (pa_cons (pe_op op_mod (pe_callTy cr_int (by rfl) T.int (by decide +kernel) (pa_cons (pv 2) pa_nil)) (pv 3)) pa_nil)) rfl)))
        (pss_one (ps_ret (pv 2))))), ?_⟩
    have e0 : start N_LawCommon [.int a, .int b] = [some (.int a), some (.int b), none, none] := rfl
    rw [e0]
    simp only [cxK, wipe, tYes, List.map_cons, List.map_nil, rIxL, rSum, tSl, rSlL, tNoPart, tPart, exists_and_left, and_assoc, V.ref.injEq, HO.lst.injEq, HO.tup.injEq, tFor_eq, iRng1, iRng2, iList, iTup, tLc_eq, tLst, tTup, gSub, rSetL, gT, gL, gTup, gCons, gNil, atI_0, atI_1, atI_2, atI_3, List.length_cons, List.length_nil, Nat.zero_add, Nat.reduceAdd, Nat.reduceLeDiff, ixN_30, ixN_31, ixN_32, Int.reduceLT, Int.reduceLE, Int.reduceNeg, upd_same, reduceCtorEq, false_and, exists_false, or_false, false_or, tSeq, tNext, tIfS, tRet, tRetN, tDrop, tAsg, gName, tPar, tPar3, tAug, ipI, tVar, tC, tOp, tUn, tCB, tD, tDK, tCons, tNil, rI, rI0, rU, tB, tTest, tCallS, tErr, tAnd, tOr, tNot, tAndV, tOrV, tNotV, tIf, rEq, rNe, scal_ii, scal_bb, scal_ss, rGcd_eq, tBits, List.set_cons_zero, List.set_cons_succ, List.getElem?_cons_zero, List.getElem?_cons_succ, Option.some.injEq, exists_eq_left', V.int.injEq, V.bl.injEq, V.str.injEq, true_and, and_true, decide_eq_true_eq, List.cons.injEq, exists_eq_left, Bool.false_eq_true, if_false, if_true, ite_true, ite_false, Bool.not_eq_true', decide_eq_false_iff_not, Bool.not_not]
    refine whileI (InvCommon a b H) (fun σ _ => slotN σ 3) ⟨_, _, rfl, by split <;> omega, by split <;> omega, gcdI_abs a b, rfl⟩ ?_
    rintro σ' H' ⟨x, y, rfl, hx, hy, e, rfl⟩
    simp only [cxK, wipe, tYes, List.map_cons, List.map_nil, rIxL, rSum, tSl, rSlL, tNoPart, tPart, exists_and_left, and_assoc, V.ref.injEq, HO.lst.injEq, HO.tup.injEq, tFor_eq, iRng1, iRng2, iList, iTup, tLc_eq, tLst, tTup, gSub, rSetL, gT, gL, gTup, gCons, gNil, atI_0, atI_1, atI_2, atI_3, List.length_cons, List.length_nil, Nat.zero_add, Nat.reduceAdd, Nat.reduceLeDiff, ixN_30, ixN_31, ixN_32, Int.reduceLT, Int.reduceLE, Int.reduceNeg, upd_same, reduceCtorEq, false_and, exists_false, or_false, false_or, tSeq, tNext, tIfS, tRet, tRetN, tDrop, tAsg, gName, tPar, tPar3, tAug, ipI, tVar, tC, tOp, tUn, tCB, tD, tDK, tCons, tNil, rI, rI0, rU, tB, tTest, tCallS, tErr, tAnd, tOr, tNot, tAndV, tOrV, tNotV, tIf, rEq, rNe, scal_ii, scal_bb, scal_ss, rGcd_eq, tBits, List.set_cons_zero, List.set_cons_succ, List.getElem?_cons_zero, List.getElem?_cons_succ, Option.some.injEq, exists_eq_left', V.int.injEq, V.bl.injEq, V.str.injEq, true_and, and_true, decide_eq_true_eq, List.cons.injEq, exists_eq_left, Bool.false_eq_true, if_false, if_true, ite_true, ite_false, Bool.not_eq_true', decide_eq_false_iff_not, Bool.not_not]
    by_cases h : y = 0
    · subst h
      rw [if_neg (by simp)]
      rw [gcdI_zero hx] at e
      rw [e]
      exact kk
    · rw [if_pos (by first | (simpa using h) | omega)]
      refine wstep ?_
      simp only [cxK, wipe, tYes, List.map_cons, List.map_nil, rIxL, rSum, tSl, rSlL, tNoPart, tPart, exists_and_left, and_assoc, V.ref.injEq, HO.lst.injEq, HO.tup.injEq, tFor_eq, iRng1, iRng2, iList, iTup, tLc_eq, tLst, tTup, gSub, rSetL, gT, gL, gTup, gCons, gNil, atI_0, atI_1, atI_2, atI_3, List.length_cons, List.length_nil, Nat.zero_add, Nat.reduceAdd, Nat.reduceLeDiff, ixN_30, ixN_31, ixN_32, Int.reduceLT, Int.reduceLE, Int.reduceNeg, upd_same, reduceCtorEq, false_and, exists_false, or_false, false_or, tSeq, tNext, tIfS, tRet, tRetN, tDrop, tAsg, gName, tPar, tPar3, tAug, ipI, tVar, tC, tOp, tUn, tCB, tD, tDK, tCons, tNil, rI, rI0, rU, tB, tTest, tCallS, tErr, tAnd, tOr, tNot, tAndV, tOrV, tNotV, tIf, rEq, rNe, scal_ii, scal_bb, scal_ss, rGcd_eq, tBits, List.set_cons_zero, List.set_cons_succ, List.getElem?_cons_zero, List.getElem?_cons_succ, Option.some.injEq, exists_eq_left', V.int.injEq, V.bl.injEq, V.str.injEq, true_and, and_true, decide_eq_true_eq, List.cons.injEq, exists_eq_left, Bool.false_eq_true, if_false, if_true, ite_true, ite_false, Bool.not_eq_true', decide_eq_false_iff_not, Bool.not_not]
      refine ⟨by omega, ⟨y, x % y, rfl, hy, Int.emod_nonneg _ (by omega), (gcdI_step hx (by omega)).trans e, rfl⟩, ?_⟩
      show (x % y).toNat < y.toNat
      have := Int.emod_lt_of_pos x (show 0 < y by omega)
      omega

abbrev s_iInvalidCutting : Stmt := initOf (top 3)

theorem sciInvalidCutting : FnScope ["self", "value"] ["self", "value"] (defScope s_iInvalidCutting) := ⟨rfl, rfl, rfl, by decide +kernel, rfl, by decide +kernel, by decide +kernel⟩

theorem okiInvalidCutting {f C : Addr} {fd : FuncData} (F : FunD K "__init__" "InvalidCutting.__init__" (defArgs s_iInvalidCutting) (defBody s_iInvalidCutting) (defScope s_iInvalidCutting) [V.non] [] f fd) (T : OexC K C) (nv : PySem.W.findIn K (.ref C) "value" = some none) : FnOk P w K mg base CX0 1 f fd ["self", "value"] (spInit C) := by
  refine F.ok (N := ["self", "value"]) sciInvalidCutting (fun vs H Q E h => ?_) (fun cdv A outer s H vs Q E hr h => ?_)
  · obtain ⟨a, v, rfl, _⟩ := h
    rfl
  · obtain ⟨a, v, rfl, ha, k⟩ := h
    refine ⟨_, (pss_one (ps_ost (pv 0) (pv 1))), ?_⟩
    have e0 : start ["self", "value"] [.ref a, v] = [some (.ref a), some v] := rfl
    rw [e0]
    simp only [cxK, wipe, tYes, List.map_cons, List.map_nil, rIxL, rSum, tSl, rSlL, tNoPart, tPart, exists_and_left, and_assoc, V.ref.injEq, HO.lst.injEq, HO.tup.injEq, tFor_eq, iRng1, iRng2, iList, iTup, tLc_eq, tLst, tTup, gSub, rSetL, gT, gL, gTup, gCons, gNil, atI_0, atI_1, atI_2, atI_3, List.length_cons, List.length_nil, Nat.zero_add, Nat.reduceAdd, Nat.reduceLeDiff, ixN_30, ixN_31, ixN_32, Int.reduceLT, Int.reduceLE, Int.reduceNeg, upd_same, reduceCtorEq, false_and, exists_false, or_false, false_or, tSeq, tNext, tIfS, tRet, tRetN, tDrop, tAsg, gName, tPar, tPar3, tAug, ipI, tVar, tC, tOp, tUn, tCB, tD, tDK, tCons, tNil, rI, rI0, rU, tB, tTest, tCallS, tErr, tAnd, tOr, tNot, tAndV, tOrV, tNotV, tIf, rEq, rNe, scal_ii, scal_bb, scal_ss, rGcd_eq, tBits, List.set_cons_zero, List.set_cons_succ, List.getElem?_cons_zero, List.getElem?_cons_succ, Option.some.injEq, exists_eq_left', V.int.injEq, V.bl.injEq, V.str.injEq, true_and, and_true, decide_eq_true_eq, List.cons.injEq, exists_eq_left, Bool.false_eq_true, if_false, if_true, ite_true, ite_false, Bool.not_eq_true', decide_eq_false_iff_not, Bool.not_not, tOst]
    exact ⟨C, T, nv, .inl ⟨ha, k⟩⟩
theorem bdiInvalidCutting {f : Addr} {fd : FuncData} (F : FunD K "__init__" "InvalidCutting.__init__" (defArgs s_iInvalidCutting) (defBody s_iInvalidCutting) (defScope s_iInvalidCutting) [V.non] [] f fd) : Binds K fd ["self", "value"] [] ∧ (∃ ds, Vals [V.non] ds ∧ Binds K fd ["self", "value"] ds) ∧ ∀ (s : Shared) (u v : Value), K.In s.heap → BindsTo s fd ⟨[u], [("value", v)]⟩ [("self", u), ("value", v)] :=
  init_binds F (fun _ _ _ _ _ _ _ _ _ _ => ⟨_, rfl, rfl⟩) (fun _ _ _ _ _ _ _ _ _ => ⟨_, rfl, rfl⟩) (fun _ _ _ _ _ _ _ _ _ _ => ⟨_, rfl, rfl⟩)

abbrev s_iInvalidList : Stmt := initOf (top 4)

theorem sciInvalidList : FnScope ["self", "value"] ["self", "value"] (defScope s_iInvalidList) := ⟨rfl, rfl, rfl, by decide +kernel, rfl, by decide +kernel, by decide +kernel⟩

theorem okiInvalidList {f C : Addr} {fd : FuncData} (F : FunD K "__init__" "InvalidList.__init__" (defArgs s_iInvalidList) (defBody s_iInvalidList) (defScope s_iInvalidList) [V.non] [] f fd) (T : OexC K C) (nv : PySem.W.findIn K (.ref C) "value" = some none) : FnOk P w K mg base CX0 1 f fd ["self", "value"] (spInit C) := by
  refine F.ok (N := ["self", "value"]) sciInvalidList (fun vs H Q E h => ?_) (fun cdv A outer s H vs Q E hr h => ?_)
  · obtain ⟨a, v, rfl, _⟩ := h
    rfl
  · obtain ⟨a, v, rfl, ha, k⟩ := h
    refine ⟨_, (pss_one (ps_ost (pv 0) (pv 1))), ?_⟩
    have e0 : start ["self", "value"] [.ref a, v] = [some (.ref a), some v] := rfl
    rw [e0]
    simp only [cxK, wipe, tYes, List.map_cons, List.map_nil, rIxL, rSum, tSl, rSlL, tNoPart, tPart, exists_and_left, and_assoc, V.ref.injEq, HO.lst.injEq, HO.tup.injEq, tFor_eq, iRng1, iRng2, iList, iTup, tLc_eq, tLst, tTup, gSub, rSetL, gT, gL, gTup, gCons, gNil, atI_0, atI_1, atI_2, atI_3, List.length_cons, List.length_nil, Nat.zero_add, Nat.reduceAdd, Nat.reduceLeDiff, ixN_30, ixN_31, ixN_32, Int.reduceLT, Int.reduceLE, Int.reduceNeg, upd_same, reduceCtorEq, false_and, exists_false, or_false, false_or, tSeq, tNext, tIfS, tRet, tRetN, tDrop, tAsg, gName, tPar, tPar3, tAug, ipI, tVar, tC, tOp, tUn, tCB, tD, tDK, tCons, tNil, rI, rI0, rU, tB, tTest, tCallS, tErr, tAnd, tOr, tNot, tAndV, tOrV, tNotV, tIf, rEq, rNe, scal_ii, scal_bb, scal_ss, rGcd_eq, tBits, List.set_cons_zero, List.set_cons_succ, List.getElem?_cons_zero, List.getElem?_cons_succ, Option.some.injEq, exists_eq_left', V.int.injEq, V.bl.injEq, V.str.injEq, true_and, and_true, decide_eq_true_eq, List.cons.injEq, exists_eq_left, Bool.false_eq_true, if_false, if_true, ite_true, ite_false, Bool.not_eq_true', decide_eq_false_iff_not, Bool.not_not, tOst]
    exact ⟨C, T, nv, .inl ⟨ha, k⟩⟩
theorem bdiInvalidList {f : Addr} {fd : FuncData} (F : FunD K "__init__" "InvalidList.__init__" (defArgs s_iInvalidList) (defBody s_iInvalidList) (defScope s_iInvalidList) [V.non] [] f fd) : Binds K fd ["self", "value"] [] ∧ (∃ ds, Vals [V.non] ds ∧ Binds K fd ["self", "value"] ds) ∧ ∀ (s : Shared) (u v : Value), K.In s.heap → BindsTo s fd ⟨[u], [("value", v)]⟩ [("self", u), ("value", v)] :=
  init_binds F (fun _ _ _ _ _ _ _ _ _ _ => ⟨_, rfl, rfl⟩) (fun _ _ _ _ _ _ _ _ _ => ⟨_, rfl, rfl⟩) (fun _ _ _ _ _ _ _ _ _ _ => ⟨_, rfl, rfl⟩)

theorem okIsWhole {f : Addr} {fd : FuncData} (F : Fun K "is_whole" "is_whole" s_IsWhole f fd) (T : Txt K mg) : FnOk P w K mg base CX0 1 f fd ["value"] (spWhole) := by
  refine F.ok scIsWhole (fun vs H Q E h => ?_) (fun cdv A outer s H vs Q E hr h => ?_)
  · obtain ⟨x, rfl, _⟩ := h
    rfl
  · obtain ⟨x, rfl, ⟨t, ht⟩, kk⟩ := h
    refine ⟨_, (pss_one (ps_ret (pe_and (pe_callB call_isi (by rfl) T.isinstance (by decide +kernel) (pa_cons (pv 0) (pa_cons (pe_bltn (v := .ty "int") (u := .type "int") (by rfl) T.int (by decide +kernel) rfl) pa_nil))) (pe_one (pe_not (pe_callB call_isi (by rfl) T.isinstance (by decide +kernel) (pa_cons (pv 0) (pa_cons (pe_bltn (v := .ty "bool") (u := .type "bool") (by rfl) T.bool (by decide +kernel) rfl) pa_nil)))))))), ?_⟩
    have e0 : start N_IsWhole [x] = [some x] := rfl
    rw [e0]
    obtain ⟨ty, hm, hi⟩ := tyS_of (K := K) ht
    simp only [cxK, wipe, tYes, List.map_cons, List.map_nil, rIxL, rSum, tSl, rSlL, tNoPart, tPart, exists_and_left, and_assoc, V.ref.injEq, HO.lst.injEq, HO.tup.injEq, tFor_eq, iRng1, iRng2, iList, iTup, tLc_eq, tLst, tTup, gSub, rSetL, gT, gL, gTup, gCons, gNil, atI_0, atI_1, atI_2, atI_3, List.length_cons, List.length_nil, Nat.zero_add, Nat.reduceAdd, Nat.reduceLeDiff, ixN_30, ixN_31, ixN_32, Int.reduceLT, Int.reduceLE, Int.reduceNeg, upd_same, reduceCtorEq, false_and, exists_false, or_false, false_or, tSeq, tNext, tIfS, tRet, tRetN, tDrop, tAsg, gName, tPar, tPar3, tAug, ipI, tVar, tC, tOp, tUn, tCB, tD, tDK, tCons, tNil, rI, rI0, rU, tB, tTest, tCallS, tErr, tAnd, tOr, tNot, tAndV, tOrV, tNotV, tIf, rEq, rNe, scal_ii, scal_bb, scal_ss, rGcd_eq, tBits, List.set_cons_zero, List.set_cons_succ, List.getElem?_cons_zero, List.getElem?_cons_succ, Option.some.injEq, exists_eq_left', V.int.injEq, V.bl.injEq, V.str.injEq, true_and, and_true, decide_eq_true_eq, List.cons.injEq, exists_eq_left, Bool.false_eq_true, if_false, if_true, ite_true, ite_false, Bool.not_eq_true', decide_eq_false_iff_not, Bool.not_not]
    simp only [List.mem_cons, List.not_mem_nil, or_false] at hm
    rw [hi] at kk
    rcases hm with rfl | rfl | rfl | rfl | rfl | rfl | rfl
    all_goals first
      | (refine rIsi_ty (b := true) ht (by decide +kernel) ?_; refine ⟨true, rfl, iteT ?_⟩; refine rIsi_ty (b := false) ht (by decide +kernel) ?_; exact ⟨false, rfl, kk⟩)
      | (refine rIsi_ty (b := true) ht (by decide +kernel) ?_; refine ⟨true, rfl, iteT ?_⟩; refine rIsi_ty (b := true) ht (by decide +kernel) ?_; exact ⟨true, rfl, kk⟩)
      | (refine rIsi_ty (b := false) ht (by decide +kernel) ?_; refine ⟨false, rfl, iteF kk⟩)

def InvWholes (H : Hp) (D : Addr) (xs : List V) : Nat → Hp → Prop := fun i H2 => Same H H2 ∧ H2 D = some (.lst ((xs.take i).map fun x => .bl (isIntV x)))

theorem okAreWholes {f : Addr} {fd : FuncData} (F : Fun K "are_wholes" "are_wholes" s_AreWholes f fd) (T : Txt K mg) {fIsWhole : Addr} {fdIsWhole : FuncData} (D_IsWhole : DefAt P w K mg base 1 "is_whole" fIsWhole fdIsWhole ["value"] (spWhole)) : FnOk P w K mg base CX0 2 f fd ["value", "many"] (spWholes) := by
  refine F.ok scAreWholes (fun vs H Q E h => ?_) (fun cdv A outer s H vs Q E hr h => ?_)
  · obtain ⟨x, m, rfl, _⟩ := h
    rfl
  · obtain ⟨x, m, rfl, hm, ⟨hO, hI⟩, kk⟩ := h
    refine ⟨_, (pss_cons (ps_if (PW.pt (pw_or (pt_not (pt_val (pe_callB call_isi (by rfl) T.isinstance (by decide +kernel) (pa_cons (pv 0) (pa_cons (pe_bltn (v := .ty "tuple") (u := .type "tuple") (by rfl) T.tuple (by decide +kernel) rfl) pa_nil))))) (pw_or1 (pt_cmpR op_ne (pe_callB lenT (by rfl) T.len (by decide +kernel) (pa_cons (pv 0) pa_nil)) (pv 1) (nomark _))))) (pss_one (ps_ret pe_bl)) pss_nil)
        (pss_one (ps_ret (pe_callB (cr_all rfl) (by rfl) T.all (by decide +kernel) (pa_cons (pe_lc (own := [("item", 2)]) (g := gName 2) (tt := tYes) rfl scAreWholes.nd (pi_tup (pv 0)) (blkOk_by (N := N_AreWholes) (sc := defScope s_AreWholes) (by decide +kernel)) (fun _ _ _ _ _ => pg_name (i := 2) scAreWholes.nd rfl (Or.inl rfl)) (fun _ _ _ _ _ => pts_nil) (fun _ _ _ _ _ => (pe_d D_IsWhole hr (pa_cons (pv 2) pa_nil)))) pa_nil))))), ?_⟩
    have e0 : start N_AreWholes [x, .int m] = [some x, some (.int m), none] := rfl
    rw [e0]
    simp only [cxK, wipe, tYes, List.map_cons, List.map_nil, rIxL, rSum, tSl, rSlL, tNoPart, tPart, exists_and_left, and_assoc, V.ref.injEq, HO.lst.injEq, HO.tup.injEq, tFor_eq, iRng1, iRng2, iList, iTup, tLc_eq, tLst, tTup, gSub, rSetL, gT, gL, gTup, gCons, gNil, atI_0, atI_1, atI_2, atI_3, List.length_cons, List.length_nil, Nat.zero_add, Nat.reduceAdd, Nat.reduceLeDiff, ixN_30, ixN_31, ixN_32, Int.reduceLT, Int.reduceLE, Int.reduceNeg, upd_same, reduceCtorEq, false_and, exists_false, or_false, false_or, tSeq, tNext, tIfS, tRet, tRetN, tDrop, tAsg, gName, tPar, tPar3, tAug, ipI, tVar, tC, tOp, tUn, tCB, tD, tDK, tCons, tNil, rI, rI0, rU, tB, tTest, tCallS, tErr, tAnd, tOr, tNot, tAndV, tOrV, tNotV, tIf, rEq, rNe, scal_ii, scal_bb, scal_ss, rGcd_eq, tBits, List.set_cons_zero, List.set_cons_succ, List.getElem?_cons_zero, List.getElem?_cons_succ, Option.some.injEq, exists_eq_left', V.int.injEq, V.bl.injEq, V.str.injEq, true_and, and_true, decide_eq_true_eq, List.cons.injEq, exists_eq_left, Bool.false_eq_true, if_false, if_true, ite_true, ite_false, Bool.not_eq_true', decide_eq_false_iff_not, Bool.not_not]
    rcases any_tuple K hO with ⟨t, ht, hb, hne⟩ | ⟨a, xs, rfl, ha⟩
    · refine rIsi_ty ht hb ⟨false, rfl, ?_⟩
      rw [if_pos rfl]
      rw [wholes_not ht hne] at kk
      exact kk _ (Same.refl _)
    · refine rIsi_ty (b := true) (tyS_tup ha) (by decide +kernel) ⟨true, rfl, ?_⟩
      rw [if_neg (by decide)]
      rw [wholes_tup ha] at kk
      simp only [cxK, wipe, tYes, List.map_cons, List.map_nil, rIxL, rSum, tSl, rSlL, tNoPart, tPart, exists_and_left, and_assoc, V.ref.injEq, HO.lst.injEq, HO.tup.injEq, tFor_eq, iRng1, iRng2, iList, iTup, tLc_eq, tLst, tTup, gSub, rSetL, gT, gL, gTup, gCons, gNil, atI_0, atI_1, atI_2, atI_3, List.length_cons, List.length_nil, Nat.zero_add, Nat.reduceAdd, Nat.reduceLeDiff, ixN_30, ixN_31, ixN_32, Int.reduceLT, Int.reduceLE, Int.reduceNeg, upd_same, reduceCtorEq, false_and, exists_false, or_false, false_or, tSeq, tNext, tIfS, tRet, tRetN, tDrop, tAsg, gName, tPar, tPar3, tAug, ipI, tVar, tC, tOp, tUn, tCB, tD, tDK, tCons, tNil, rI, rI0, rU, tB, tTest, tCallS, tErr, tAnd, tOr, tNot, tAndV, tOrV, tNotV, tIf, rEq, rNe, scal_ii, scal_bb, scal_ss, rGcd_eq, tBits, List.set_cons_zero, List.set_cons_succ, List.getElem?_cons_zero, List.getElem?_cons_succ, Option.some.injEq, exists_eq_left', V.int.injEq, V.bl.injEq, V.str.injEq, true_and, and_true, decide_eq_true_eq, List.cons.injEq, exists_eq_left, Bool.false_eq_true, if_false, if_true, ite_true, ite_false, Bool.not_eq_true', decide_eq_false_iff_not, Bool.not_not, ha]
      refine ite2 (fun hn => ?_) (fun hn => ?_)
      · rw [decide_eq_false hn, Bool.false_and] at kk
        exact kk _ (Same.refl _)
      · have hn2 := Decidable.not_not.mp hn
        rw [decide_eq_true hn2, Bool.true_and] at kk
        refine ⟨⟨_, SqT.of ha⟩, fun Dd nD => ?_⟩
        refine lcW_tup (xs := xs) (InvWholes H Dd xs) ⟨Same.upd nD, upd_same⟩ (fun i H2 _ z => SqT.of (z.1 _ _ ha)) ?_ ?_
        · rintro i x H2 hx ⟨s2, e2⟩
          refine ⟨rfl, ?_⟩
          have hmem : x ∈ xs := List.mem_of_getElem? hx
          simp only [cxK, wipe, tYes, List.map_cons, List.map_nil, rIxL, rSum, tSl, rSlL, tNoPart, tPart, exists_and_left, and_assoc, V.ref.injEq, HO.lst.injEq, HO.tup.injEq, tFor_eq, iRng1, iRng2, iList, iTup, tLc_eq, tLst, tTup, gSub, rSetL, gT, gL, gTup, gCons, gNil, atI_0, atI_1, atI_2, atI_3, List.length_cons, List.length_nil, Nat.zero_add, Nat.reduceAdd, Nat.reduceLeDiff, ixN_30, ixN_31, ixN_32, Int.reduceLT, Int.reduceLE, Int.reduceNeg, upd_same, reduceCtorEq, false_and, exists_false, or_false, false_or, tSeq, tNext, tIfS, tRet, tRetN, tDrop, tAsg, gName, tPar, tPar3, tAug, ipI, tVar, tC, tOp, tUn, tCB, tD, tDK, tCons, tNil, rI, rI0, rU, tB, tTest, tCallS, tErr, tAnd, tOr, tNot, tAndV, tOrV, tNotV, tIf, rEq, rNe, scal_ii, scal_bb, scal_ss, rGcd_eq, tBits, List.set_cons_zero, List.set_cons_succ, List.getElem?_cons_zero, List.getElem?_cons_succ, Option.some.injEq, exists_eq_left', V.int.injEq, V.bl.injEq, V.str.injEq, true_and, and_true, decide_eq_true_eq, List.cons.injEq, exists_eq_left, Bool.false_eq_true, if_false, if_true, ite_true, ite_false, Bool.not_eq_true', decide_eq_false_iff_not, Bool.not_not]
          refine ⟨x, rfl, (hI a xs rfl ha x hmem).same s2, ?_⟩
          refine ⟨_, e2, small1000 ?_, Same.upd2 s2 nD, ?_⟩
          · rw [List.length_map, List.length_take]
            omega
          · have e3 : xs.take (i + 1) = xs.take i ++ [x] := by rw [List.take_succ, hx]; rfl
            rw [upd_same, e3, List.map_append]
            rfl
        · rintro H2 ⟨s2, e2⟩
          refine ⟨Dd, xs.map isIntV, rfl, SqL.of ?_, ?_⟩
          · rw [e2, List.take_length, List.map_map]
            rfl
          · rw [List.all_map]
            exact kk _ s2

theorem okAreWithoutDivisor {f : Addr} {fd : FuncData} (F : Fun K "_are_without_divisor" "_are_without_divisor" s_AreWithoutDivisor f fd) (T : Txt K mg) : FnOk P w K mg base CX0 1 f fd ["one", "other", "third"] (spApart) := by
  refine F.ok scAreWithoutDivisor (fun vs H Q E h => ?_) (fun cdv A outer s H vs Q E hr h => ?_)
  · obtain ⟨a, b, c, rfl, _⟩ := h
    rfl
  · obtain ⟨a, b, c, rfl, kk⟩ := h
    refine ⟨_, (pss_one (ps_ret (pe_cmpR op_eq (pe_callBfun cr_gcd (by rfl) T.gcd (pa_cons (pe_callBfun cr_gcd (by rfl) T.gcd (pa_cons (pv 0) (pa_cons (pv 1) pa_nil))) (pa_cons (pv 2) pa_nil))) pe_int (nomark _)))), ?_⟩
    have e0 : start N_AreWithoutDivisor [.int a, .int b, .int c] = [some (.int a), some (.int b), some (.int c)] := rfl
    rw [e0]
    simp only [cxK, wipe, tYes, List.map_cons, List.map_nil, rIxL, rSum, tSl, rSlL, tNoPart, tPart, exists_and_left, and_assoc, V.ref.injEq, HO.lst.injEq, HO.tup.injEq, tFor_eq, iRng1, iRng2, iList, iTup, tLc_eq, tLst, tTup, gSub, rSetL, gT, gL, gTup, gCons, gNil, atI_0, atI_1, atI_2, atI_3, List.length_cons, List.length_nil, Nat.zero_add, Nat.reduceAdd, Nat.reduceLeDiff, ixN_30, ixN_31, ixN_32, Int.reduceLT, Int.reduceLE, Int.reduceNeg, upd_same, reduceCtorEq, false_and, exists_false, or_false, false_or, tSeq, tNext, tIfS, tRet, tRetN, tDrop, tAsg, gName, tPar, tPar3, tAug, ipI, tVar, tC, tOp, tUn, tCB, tD, tDK, tCons, tNil, rI, rI0, rU, tB, tTest, tCallS, tErr, tAnd, tOr, tNot, tAndV, tOrV, tNotV, tIf, rEq, rNe, scal_ii, scal_bb, scal_ss, rGcd_eq, tBits, List.set_cons_zero, List.set_cons_succ, List.getElem?_cons_zero, List.getElem?_cons_succ, Option.some.injEq, exists_eq_left', V.int.injEq, V.bl.injEq, V.str.injEq, true_and, and_true, decide_eq_true_eq, List.cons.injEq, exists_eq_left, Bool.false_eq_true, if_false, if_true, ite_true, ite_false, Bool.not_eq_true', decide_eq_false_iff_not, Bool.not_not]
    exact kk

theorem okIsCutting {f : Addr} {fd : FuncData} (F : Fun K "is_cutting" "is_cutting" s_IsCutting f fd) (T : Txt K mg) {fAreWholes : Addr} {fdAreWholes : FuncData} (D_AreWholes : DefAt P w K mg base 2 "are_wholes" fAreWholes fdAreWholes ["value", "many"] (spWholes)) {fAreWithoutDivisor : Addr} {fdAreWithoutDivisor : FuncData} (D_AreWithoutDivisor : DefAt P w K mg base 1 "_are_without_divisor" fAreWithoutDivisor fdAreWithoutDivisor ["one", "other", "third"] (spApart)) : FnOk P w K mg base CX0 3 f fd ["value"] (spIsCutting) := by
  refine F.ok scIsCutting (fun vs H Q E h => ?_) (fun cdv A outer s H vs Q E hr h => ?_)
  · obtain ⟨x, rfl, _⟩ := h
    rfl
  · obtain ⟨x, rfl, hV, kk⟩ := h
    refine ⟨_, (pss_cons (ps_if (pt_not (pt_val (pe_d D_AreWholes hr (pa_cons (pv 0) (pa_cons pe_int pa_nil))))) (pss_one (ps_ret pe_bl)) pss_nil)
        (pss_cons (ps_asg (pv 0) (pg_tupT 4 rfl (pgs_cons (pg_name (i := 1) scIsCutting.nd rfl (Or.inl rfl)) (pgs_cons (pg_name (i := 2) scIsCutting.nd rfl (Or.inl rfl)) (pgs_cons (pg_name (i := 3) scIsCutting.nd rfl (Or.inl rfl)) (pgs_cons (pg_name (i := 4) scIsCutting.nd rfl (Or.inl rfl)) pgs_nil))))))
        (pss_cons (ps_if (PW.pt (pw_or (pt_cmpR op_lt (pv 2) pe_int (nomark _)) (pw_or (pt_cmpR op_lt (pv 3) pe_int (nomark _)) (pw_or1 (pt_cmpR op_ge (pe_op op_add (pv 3) (pv 4)) (pv 2) (nomark _)))))) (pss_one (ps_ret pe_bl)) pss_nil)
        (pss_cons (ps_set (i := 5) scIsCutting.nd rfl (Or.inl rfl) (pe_callBfun cr_gcd (by rfl) T.gcd (pa_cons (pv 2) (pa_cons (pv 3) pa_nil))))
        (pss_one (ps_ret (pe_and (pe_chain op_le op_lt pe_int (pv 1) (pv 5)) (pe_one (pe_d D_AreWithoutDivisor hr (pa_cons (pv 1) (pa_cons (pv 5) (pa_cons (pv 4) pa_nil)))))))))))), ?_⟩
    have e0 : start N_IsCutting [x] = [some x, none, none, none, none, none] := rfl
    rw [e0]
    simp only [cxK, wipe, tYes, List.map_cons, List.map_nil, rIxL, rSum, tSl, rSlL, tNoPart, tPart, exists_and_left, and_assoc, V.ref.injEq, HO.lst.injEq, HO.tup.injEq, tFor_eq, iRng1, iRng2, iList, iTup, tLc_eq, tLst, tTup, gSub, rSetL, gT, gL, gTup, gCons, gNil, atI_0, atI_1, atI_2, atI_3, List.length_cons, List.length_nil, Nat.zero_add, Nat.reduceAdd, Nat.reduceLeDiff, ixN_30, ixN_31, ixN_32, Int.reduceLT, Int.reduceLE, Int.reduceNeg, upd_same, reduceCtorEq, false_and, exists_false, or_false, false_or, tSeq, tNext, tIfS, tRet, tRetN, tDrop, tAsg, gName, tPar, tPar3, tAug, ipI, tVar, tC, tOp, tUn, tCB, tD, tDK, tCons, tNil, rI, rI0, rU, tB, tTest, tCallS, tErr, tAnd, tOr, tNot, tAndV, tOrV, tNotV, tIf, rEq, rNe, scal_ii, scal_bb, scal_ss, rGcd_eq, tBits, List.set_cons_zero, List.set_cons_succ, List.getElem?_cons_zero, List.getElem?_cons_succ, Option.some.injEq, exists_eq_left', V.int.injEq, V.bl.injEq, V.str.injEq, true_and, and_true, decide_eq_true_eq, List.cons.injEq, exists_eq_left, Bool.false_eq_true, if_false, if_true, ite_true, ite_false, Bool.not_eq_true', decide_eq_false_iff_not, Bool.not_not]
    refine ⟨x, 4, rfl, by decide, hV, fun H1 s1 => ⟨_, rfl, ?_⟩⟩
    cases hw : wholesB H 4 x with
    | false =>
      rw [if_pos rfl]
      rw [cutB_not hw] at kk
      exact kk _ s1
    | true =>
      rw [if_neg (by decide)]
      obtain ⟨p, a, b, c, e, rfl, ha⟩ := wholes4 hw
      rw [cutB4 ha] at kk
      have e1 := s1 _ _ ha
      simp only [cxK, wipe, tYes, List.map_cons, List.map_nil, rIxL, rSum, tSl, rSlL, tNoPart, tPart, exists_and_left, and_assoc, V.ref.injEq, HO.lst.injEq, HO.tup.injEq, tFor_eq, iRng1, iRng2, iList, iTup, tLc_eq, tLst, tTup, gSub, rSetL, gT, gL, gTup, gCons, gNil, atI_0, atI_1, atI_2, atI_3, List.length_cons, List.length_nil, Nat.zero_add, Nat.reduceAdd, Nat.reduceLeDiff, ixN_30, ixN_31, ixN_32, Int.reduceLT, Int.reduceLE, Int.reduceNeg, upd_same, reduceCtorEq, false_and, exists_false, or_false, false_or, tSeq, tNext, tIfS, tRet, tRetN, tDrop, tAsg, gName, tPar, tPar3, tAug, ipI, tVar, tC, tOp, tUn, tCB, tD, tDK, tCons, tNil, rI, rI0, rU, tB, tTest, tCallS, tErr, tAnd, tOr, tNot, tAndV, tOrV, tNotV, tIf, rEq, rNe, scal_ii, scal_bb, scal_ss, rGcd_eq, tBits, List.set_cons_zero, List.set_cons_succ, List.getElem?_cons_zero, List.getElem?_cons_succ, Option.some.injEq, exists_eq_left', V.int.injEq, V.bl.injEq, V.str.injEq, true_and, and_true, decide_eq_true_eq, List.cons.injEq, exists_eq_left, Bool.false_eq_true, if_false, if_true, ite_true, ite_false, Bool.not_eq_true', decide_eq_false_iff_not, Bool.not_not, e1]
      unfold CutOk at kk
      refine ite2 (fun h1 => ?_) (fun h1 => ?_)
      · rw [decide_eq_false (show ¬ 1 ≤ b by omega), Bool.false_and] at kk
        exact kk _ s1
      · rw [decide_eq_true (show 1 ≤ b by omega), Bool.true_and] at kk
        refine ite2 (fun h2 => ?_) (fun h2 => ?_)
        · rw [decide_eq_false (show ¬ 1 ≤ c by omega), Bool.false_and] at kk
          exact kk _ s1
        · rw [decide_eq_true (show 1 ≤ c by omega), Bool.true_and] at kk
          refine ite2 (fun h3 => ?_) (fun h3 => ?_)
          · rw [decide_eq_false (show ¬ c + e < b by omega), Bool.false_and] at kk
            exact kk _ s1
          · rw [decide_eq_true (show c + e < b by omega), Bool.true_and] at kk
            simp only [cxK, wipe, tYes, List.map_cons, List.map_nil, rIxL, rSum, tSl, rSlL, tNoPart, tPart, exists_and_left, and_assoc, V.ref.injEq, HO.lst.injEq, HO.tup.injEq, tFor_eq, iRng1, iRng2, iList, iTup, tLc_eq, tLst, tTup, gSub, rSetL, gT, gL, gTup, gCons, gNil, atI_0, atI_1, atI_2, atI_3, List.length_cons, List.length_nil, Nat.zero_add, Nat.reduceAdd, Nat.reduceLeDiff, ixN_30, ixN_31, ixN_32, Int.reduceLT, Int.reduceLE, Int.reduceNeg, upd_same, reduceCtorEq, false_and, exists_false, or_false, false_or, tSeq, tNext, tIfS, tRet, tRetN, tDrop, tAsg, gName, tPar, tPar3, tAug, ipI, tVar, tC, tOp, tUn, tCB, tD, tDK, tCons, tNil, rI, rI0, rU, tB, tTest, tCallS, tErr, tAnd, tOr, tNot, tAndV, tOrV, tNotV, tIf, rEq, rNe, scal_ii, scal_bb, scal_ss, rGcd_eq, tBits, List.set_cons_zero, List.set_cons_succ, List.getElem?_cons_zero, List.getElem?_cons_succ, Option.some.injEq, exists_eq_left', V.int.injEq, V.bl.injEq, V.str.injEq, true_and, and_true, decide_eq_true_eq, List.cons.injEq, exists_eq_left, Bool.false_eq_true, if_false, if_true, ite_true, ite_false, Bool.not_eq_true', decide_eq_false_iff_not, Bool.not_not, tChain]
            refine ite2 (fun h4 => ?_) (fun h4 => ?_)
            · rw [decide_eq_true h4, Bool.true_and] at kk
              refine ite2 (fun h5 => ?_) (fun h5 => ?_)
              · rw [decide_eq_true h5, Bool.true_and] at kk
                exact ⟨a, gcdI b c, e, rfl, kk _ s1⟩
              · rw [decide_eq_false h5, Bool.false_and] at kk
                exact kk _ s1
            · rw [decide_eq_false h4, Bool.false_and] at kk
              exact kk _ s1

theorem okCheckCutting {f : Addr} {fd : FuncData} (F : Fun K "check_cutting" "check_cutting" s_CheckCutting f fd) (T : Txt K mg) {C_InvalidCutting f_InvalidCutting : Addr} {fd_InvalidCutting : FuncData} (E_InvalidCutting : ErrN P w K mg base "InvalidCutting" C_InvalidCutting f_InvalidCutting fd_InvalidCutting) {fIsCutting : Addr} {fdIsCutting : FuncData} (D_IsCutting : DefAt P w K mg base 3 "is_cutting" fIsCutting fdIsCutting ["value"] (spIsCutting)) : FnOk P w K mg base CX0 4 f fd ["cutting"] (spCheckCut0) := by
  refine F.ok scCheckCutting (fun vs H Q E h => ?_) (fun cdv A outer s H vs Q E hr h => ?_)
  · obtain ⟨p, q, rfl, _⟩ := h
    rfl
  · obtain ⟨p, q, rfl, hC, kk⟩ := h
    refine ⟨_, (pss_one (ps_if (pt_not (pt_val (pe_d D_IsCutting hr (pa_cons (pv 0) pa_nil)))) (pss_one ps_never) pss_nil)), ?_⟩
    have e0 : start N_CheckCutting [.ref p] = [some (.ref p)] := rfl
    rw [e0]
    simp only [cxK, wipe, tYes, List.map_cons, List.map_nil, rIxL, rSum, tSl, rSlL, tNoPart, tPart, exists_and_left, and_assoc, V.ref.injEq, HO.lst.injEq, HO.tup.injEq, tFor_eq, iRng1, iRng2, iList, iTup, tLc_eq, tLst, tTup, gSub, rSetL, gT, gL, gTup, gCons, gNil, atI_0, atI_1, atI_2, atI_3, List.length_cons, List.length_nil, Nat.zero_add, Nat.reduceAdd, Nat.reduceLeDiff, ixN_30, ixN_31, ixN_32, Int.reduceLT, Int.reduceLE, Int.reduceNeg, upd_same, reduceCtorEq, false_and, exists_false, or_false, false_or, tSeq, tNext, tIfS, tRet, tRetN, tDrop, tAsg, gName, tPar, tPar3, tAug, ipI, tVar, tC, tOp, tUn, tCB, tD, tDK, tCons, tNil, rI, rI0, rU, tB, tTest, tCallS, tErr, tAnd, tOr, tNot, tAndV, tOrV, tNotV, tIf, rEq, rNe, scal_ii, scal_bb, scal_ss, rGcd_eq, tBits, List.set_cons_zero, List.set_cons_succ, List.getElem?_cons_zero, List.getElem?_cons_succ, Option.some.injEq, exists_eq_left', V.int.injEq, V.bl.injEq, V.str.injEq, true_and, and_true, decide_eq_true_eq, List.cons.injEq, exists_eq_left, Bool.false_eq_true, if_false, if_true, ite_true, ite_false, Bool.not_eq_true', decide_eq_false_iff_not, Bool.not_not]
    refine ⟨.ref p, rfl, cutAt_okV hC.at', fun H1 s1 => ?_⟩
    rw [cutB_q hC.at', hC.ok]
    refine ⟨true, rfl, ?_⟩
    rw [if_neg (by decide)]
    exact kk _ s1

theorem okIsPath {f : Addr} {fd : FuncData} (F : Fun K "is_path" "is_path" s_IsPath f fd) (T : Txt K mg) {fIsWhole : Addr} {fdIsWhole : FuncData} (D_IsWhole : DefAt P w K mg base 1 "is_whole" fIsWhole fdIsWhole ["value"] (spWhole)) : FnOk P w K mg base CX0 2 f fd ["value"] (spIsPath0) := by
  refine F.ok scIsPath (fun vs H Q E h => ?_) (fun cdv A outer s H vs Q E hr h => ?_)
  · obtain ⟨p, t, rfl, _⟩ := h
    rfl
  · obtain ⟨p, t, rfl, hp, kk⟩ := h
    refine ⟨_, (pss_one (ps_ret (pe_and (pe_callB call_isi (by rfl) T.isinstance (by decide +kernel) (pa_cons (pv 0) (pa_cons (pe_bltn (v := .ty "list") (u := .type "list") (by rfl) T.list (by decide +kernel) rfl) pa_nil))) (pe_and (pe_cmpR op_eq (pe_callB lenL (by rfl) T.len (by decide +kernel) (pa_cons (pv 0) pa_nil)) pe_int (nomark _)) (pe_one (pe_callB (cr_all rfl) (by rfl) T.all (by decide +kernel) (pa_cons (pe_lc (own := [("item", 1)]) (g := gName 1) (tt := tYes) rfl scIsPath.nd (pi_list (pv 0)) (blkOk_by (N := N_IsPath) (sc := defScope s_IsPath) (by decide +kernel)) (fun _ _ _ _ _ => pg_name (i := 1) scIsPath.nd rfl (Or.inl rfl)) (fun _ _ _ _ _ => pts_nil) (fun _ _ _ _ _ => (pe_d D_IsWhole hr (pa_cons (pv 1) pa_nil)))) pa_nil))))))), ?_⟩
    have e0 : start N_IsPath [.ref p] = [some (.ref p), none] := rfl
    rw [e0]
    simp only [cxK, wipe, tYes, List.map_cons, List.map_nil, rIxL, rSum, tSl, rSlL, tNoPart, tPart, exists_and_left, and_assoc, V.ref.injEq, HO.lst.injEq, HO.tup.injEq, tFor_eq, iRng1, iRng2, iList, iTup, tLc_eq, tLst, tTup, gSub, rSetL, gT, gL, gTup, gCons, gNil, atI_0, atI_1, atI_2, atI_3, List.length_cons, List.length_nil, Nat.zero_add, Nat.reduceAdd, Nat.reduceLeDiff, ixN_30, ixN_31, ixN_32, Int.reduceLT, Int.reduceLE, Int.reduceNeg, upd_same, reduceCtorEq, false_and, exists_false, or_false, false_or, tSeq, tNext, tIfS, tRet, tRetN, tDrop, tAsg, gName, tPar, tPar3, tAug, ipI, tVar, tC, tOp, tUn, tCB, tD, tDK, tCons, tNil, rI, rI0, rU, tB, tTest, tCallS, tErr, tAnd, tOr, tNot, tAndV, tOrV, tNotV, tIf, rEq, rNe, scal_ii, scal_bb, scal_ss, rGcd_eq, tBits, List.set_cons_zero, List.set_cons_succ, List.getElem?_cons_zero, List.getElem?_cons_succ, Option.some.injEq, exists_eq_left', V.int.injEq, V.bl.injEq, V.str.injEq, true_and, and_true, decide_eq_true_eq, List.cons.injEq, exists_eq_left, Bool.false_eq_true, if_false, if_true, ite_true, ite_false, Bool.not_eq_true', decide_eq_false_iff_not, Bool.not_not]
    refine rIsi_ty (b := true) (tyS_lst hp) (by decide +kernel) ⟨true, rfl, ?_⟩
    rw [if_pos rfl]
    simp only [cxK, wipe, tYes, List.map_cons, List.map_nil, rIxL, rSum, tSl, rSlL, tNoPart, tPart, exists_and_left, and_assoc, V.ref.injEq, HO.lst.injEq, HO.tup.injEq, tFor_eq, iRng1, iRng2, iList, iTup, tLc_eq, tLst, tTup, gSub, rSetL, gT, gL, gTup, gCons, gNil, atI_0, atI_1, atI_2, atI_3, List.length_cons, List.length_nil, Nat.zero_add, Nat.reduceAdd, Nat.reduceLeDiff, ixN_30, ixN_31, ixN_32, Int.reduceLT, Int.reduceLE, Int.reduceNeg, upd_same, reduceCtorEq, false_and, exists_false, or_false, false_or, tSeq, tNext, tIfS, tRet, tRetN, tDrop, tAsg, gName, tPar, tPar3, tAug, ipI, tVar, tC, tOp, tUn, tCB, tD, tDK, tCons, tNil, rI, rI0, rU, tB, tTest, tCallS, tErr, tAnd, tOr, tNot, tAndV, tOrV, tNotV, tIf, rEq, rNe, scal_ii, scal_bb, scal_ss, rGcd_eq, tBits, List.set_cons_zero, List.set_cons_succ, List.getElem?_cons_zero, List.getElem?_cons_succ, Option.some.injEq, exists_eq_left', V.int.injEq, V.bl.injEq, V.str.injEq, true_and, and_true, decide_eq_true_eq, List.cons.injEq, exists_eq_left, Bool.false_eq_true, if_false, if_true, ite_true, ite_false, Bool.not_eq_true', decide_eq_false_iff_not, Bool.not_not, hp]
    rw [if_pos (show ((cutV4 t).length : Int) = 4 from rfl)]
    refine ⟨⟨_, SqL.of hp⟩, fun Dd nD => ?_⟩
    refine lcW_list (xs := cutV4 t) (InvTk H Dd (List.replicate 4 (V.bl true))) ⟨Same.upd nD, upd_same⟩ (fun i H2 _ z => SqL.of (z.1 _ _ hp)) ?_ ?_
    · rintro i x H2 hx z
      refine ⟨rfl, ?_⟩
      obtain ⟨n, rfl⟩ : ∃ n : Int, x = .int n := by
        have hm := List.mem_of_getElem? hx
        simp only [cutV4, List.mem_cons, List.not_mem_nil, or_false] at hm
        rcases hm with rfl | rfl | rfl | rfl <;> exact ⟨_, rfl⟩
      have hi : i < 4 := (List.getElem?_eq_some_iff.mp hx).1
      simp only [cxK, wipe, tYes, List.map_cons, List.map_nil, rIxL, rSum, tSl, rSlL, tNoPart, tPart, exists_and_left, and_assoc, V.ref.injEq, HO.lst.injEq, HO.tup.injEq, tFor_eq, iRng1, iRng2, iList, iTup, tLc_eq, tLst, tTup, gSub, rSetL, gT, gL, gTup, gCons, gNil, atI_0, atI_1, atI_2, atI_3, List.length_cons, List.length_nil, Nat.zero_add, Nat.reduceAdd, Nat.reduceLeDiff, ixN_30, ixN_31, ixN_32, Int.reduceLT, Int.reduceLE, Int.reduceNeg, upd_same, reduceCtorEq, false_and, exists_false, or_false, false_or, tSeq, tNext, tIfS, tRet, tRetN, tDrop, tAsg, gName, tPar, tPar3, tAug, ipI, tVar, tC, tOp, tUn, tCB, tD, tDK, tCons, tNil, rI, rI0, rU, tB, tTest, tCallS, tErr, tAnd, tOr, tNot, tAndV, tOrV, tNotV, tIf, rEq, rNe, scal_ii, scal_bb, scal_ss, rGcd_eq, tBits, List.set_cons_zero, List.set_cons_succ, List.getElem?_cons_zero, List.getElem?_cons_succ, Option.some.injEq, exists_eq_left', V.int.injEq, V.bl.injEq, V.str.injEq, true_and, and_true, decide_eq_true_eq, List.cons.injEq, exists_eq_left, Bool.false_eq_true, if_false, if_true, ite_true, ite_false, Bool.not_eq_true', decide_eq_false_iff_not, Bool.not_not]
      refine ⟨_, rfl, ⟨"int", rfl⟩, ?_⟩
      exact z.push nD (Same.refl _) (by rw [List.getElem?_replicate, if_pos hi]; rfl) (by decide)
    · rintro H2 ⟨s2, e2⟩
      refine ⟨Dd, [true, true, true, true], rfl, SqL.of e2, kk _ s2⟩

theorem okCheckPath {f : Addr} {fd : FuncData} (F : Fun K "check_path" "check_path" s_CheckPath f fd) (T : Txt K mg) {C_InvalidList f_InvalidList : Addr} {fd_InvalidList : FuncData} (E_InvalidList : ErrN P w K mg base "InvalidList" C_InvalidList f_InvalidList fd_InvalidList) {fIsPath : Addr} {fdIsPath : FuncData} (D_IsPath : DefAt P w K mg base 2 "is_path" fIsPath fdIsPath ["value"] (spIsPath0)) : FnOk P w K mg base CX0 3 f fd ["path"] (spCheckPath0) := by
  refine F.ok scCheckPath (fun vs H Q E h => ?_) (fun cdv A outer s H vs Q E hr h => ?_)
  · obtain ⟨p, t, rfl, _⟩ := h
    rfl
  · obtain ⟨p, t, rfl, hp, kk⟩ := h
    refine ⟨_, (pss_one (ps_if (pt_not (pt_val (pe_d D_IsPath hr (pa_cons (pv 0) pa_nil)))) (pss_one ps_never) pss_nil)), ?_⟩
    have e0 : start N_CheckPath [.ref p] = [some (.ref p)] := rfl
    rw [e0]
    simp only [cxK, wipe, tYes, List.map_cons, List.map_nil, rIxL, rSum, tSl, rSlL, tNoPart, tPart, exists_and_left, and_assoc, V.ref.injEq, HO.lst.injEq, HO.tup.injEq, tFor_eq, iRng1, iRng2, iList, iTup, tLc_eq, tLst, tTup, gSub, rSetL, gT, gL, gTup, gCons, gNil, atI_0, atI_1, atI_2, atI_3, List.length_cons, List.length_nil, Nat.zero_add, Nat.reduceAdd, Nat.reduceLeDiff, ixN_30, ixN_31, ixN_32, Int.reduceLT, Int.reduceLE, Int.reduceNeg, upd_same, reduceCtorEq, false_and, exists_false, or_false, false_or, tSeq, tNext, tIfS, tRet, tRetN, tDrop, tAsg, gName, tPar, tPar3, tAug, ipI, tVar, tC, tOp, tUn, tCB, tD, tDK, tCons, tNil, rI, rI0, rU, tB, tTest, tCallS, tErr, tAnd, tOr, tNot, tAndV, tOrV, tNotV, tIf, rEq, rNe, scal_ii, scal_bb, scal_ss, rGcd_eq, tBits, List.set_cons_zero, List.set_cons_succ, List.getElem?_cons_zero, List.getElem?_cons_succ, Option.some.injEq, exists_eq_left', V.int.injEq, V.bl.injEq, V.str.injEq, true_and, and_true, decide_eq_true_eq, List.cons.injEq, exists_eq_left, Bool.false_eq_true, if_false, if_true, ite_true, ite_false, Bool.not_eq_true', decide_eq_false_iff_not, Bool.not_not]
    refine ⟨p, t, rfl, hp, fun H1 s1 => ⟨true, rfl, ?_⟩⟩
    rw [if_neg (by decide)]
    exact kk _ s1

theorem okCrossing {f : Addr} {fd : FuncData} (F : Fun K "crossing" "crossing" s_Crossing f fd) (T : Txt K mg) {fCheckPath : Addr} {fdCheckPath : FuncData} (D_CheckPath : DefAt P w K mg base 3 "check_path" fCheckPath fdCheckPath ["path"] (spCheckPath0)) : FnOk P w K mg base CX0 4 f fd ["one", "other"] (spCross) := by
  refine F.ok scCrossing (fun vs H Q E h => ?_) (fun cdv A outer s H vs Q E hr h => ?_)
  · obtain ⟨p, r, t, u, rfl, _⟩ := h
    rfl
  · obtain ⟨p, r, t, u, rfl, hp, hr2, zt, zu, kk⟩ := h
    refine ⟨_, (pss_cons (ps_expr (pe_d D_CheckPath hr (pa_cons (pv 0) pa_nil)))
        (pss_cons (ps_expr (pe_d D_CheckPath hr (pa_cons (pv 1) pa_nil)))
        (pss_one (ps_ret (pe_op op_sub (pe_op op_add (pe_op op_sub (pe_op op_mulU (pe_ix ixL (pv 0) pe_int (fun _ _ => rfl)) (pe_ix ixL (pv 1) pe_int (fun _ _ => rfl))) (pe_op op_mulU (pe_ix ixL (pv 0) pe_int (fun _ _ => rfl)) (pe_ix ixL (pv 1) pe_int (fun _ _ => rfl)))) (pe_op op_mulU (pe_ix ixL (pv 0) pe_int (fun _ _ => rfl)) (pe_ix ixL (pv 1) pe_int (fun _ _ => rfl)))) (pe_op op_mulU (pe_ix ixL (pv 0) pe_int (fun _ _ => rfl)) (pe_ix ixL (pv 1) pe_int (fun _ _ => rfl)))))))), ?_⟩
    have e0 : start N_Crossing [.ref p, .ref r] = [some (.ref p), some (.ref r)] := rfl
    rw [e0]
    simp only [cxK, wipe, tYes, List.map_cons, List.map_nil, rIxL, rSum, tSl, rSlL, tNoPart, tPart, exists_and_left, and_assoc, V.ref.injEq, HO.lst.injEq, HO.tup.injEq, tFor_eq, iRng1, iRng2, iList, iTup, tLc_eq, tLst, tTup, gSub, rSetL, gT, gL, gTup, gCons, gNil, atI_0, atI_1, atI_2, atI_3, List.length_cons, List.length_nil, Nat.zero_add, Nat.reduceAdd, Nat.reduceLeDiff, ixN_30, ixN_31, ixN_32, Int.reduceLT, Int.reduceLE, Int.reduceNeg, upd_same, reduceCtorEq, false_and, exists_false, or_false, false_or, tSeq, tNext, tIfS, tRet, tRetN, tDrop, tAsg, gName, tPar, tPar3, tAug, ipI, tVar, tC, tOp, tUn, tCB, tD, tDK, tCons, tNil, rI, rI0, rU, tB, tTest, tCallS, tErr, tAnd, tOr, tNot, tAndV, tOrV, tNotV, tIf, rEq, rNe, scal_ii, scal_bb, scal_ss, rGcd_eq, tBits, List.set_cons_zero, List.set_cons_succ, List.getElem?_cons_zero, List.getElem?_cons_succ, Option.some.injEq, exists_eq_left', V.int.injEq, V.bl.injEq, V.str.injEq, true_and, and_true, decide_eq_true_eq, List.cons.injEq, exists_eq_left, Bool.false_eq_true, if_false, if_true, ite_true, ite_false, Bool.not_eq_true', decide_eq_false_iff_not, Bool.not_not]
    refine ⟨p, t, rfl, hp, fun H1 s1 => ?_⟩
    refine ⟨r, u, rfl, s1 _ _ hr2, fun H2 s2 => ?_⟩
    have e1 : H2 p = some (.lst [.int t.1, .int t.2.1, .int t.2.2.1, .int t.2.2.2]) := s2 _ _ (s1 _ _ hp)
    have e2 : H2 r = some (.lst [.int u.1, .int u.2.1, .int u.2.2.1, .int u.2.2.2]) := s2 _ _ (s1 _ _ hr2)
    obtain ⟨z1, z2, z3, z4⟩ := zt
    obtain ⟨y1, y2, y3, y4⟩ := zu
    simp only [cxK, wipe, tYes, List.map_cons, List.map_nil, rIxL, rSum, tSl, rSlL, tNoPart, tPart, exists_and_left, and_assoc, V.ref.injEq, HO.lst.injEq, HO.tup.injEq, tFor_eq, iRng1, iRng2, iList, iTup, tLc_eq, tLst, tTup, gSub, rSetL, gT, gL, gTup, gCons, gNil, atI_0, atI_1, atI_2, atI_3, List.length_cons, List.length_nil, Nat.zero_add, Nat.reduceAdd, Nat.reduceLeDiff, ixN_30, ixN_31, ixN_32, Int.reduceLT, Int.reduceLE, Int.reduceNeg, upd_same, reduceCtorEq, false_and, exists_false, or_false, false_or, tSeq, tNext, tIfS, tRet, tRetN, tDrop, tAsg, gName, tPar, tPar3, tAug, ipI, tVar, tC, tOp, tUn, tCB, tD, tDK, tCons, tNil, rI, rI0, rU, tB, tTest, tCallS, tErr, tAnd, tOr, tNot, tAndV, tOrV, tNotV, tIf, rEq, rNe, scal_ii, scal_bb, scal_ss, rGcd_eq, tBits, List.set_cons_zero, List.set_cons_succ, List.getElem?_cons_zero, List.getElem?_cons_succ, Option.some.injEq, exists_eq_left', V.int.injEq, V.bl.injEq, V.str.injEq, true_and, and_true, decide_eq_true_eq, List.cons.injEq, exists_eq_left, Bool.false_eq_true, if_false, if_true, ite_true, ite_false, Bool.not_eq_true', decide_eq_false_iff_not, Bool.not_not, e1, e2]
    exact ⟨okm z1 y2 (by decide) (by decide), okm z2 y1 (by decide) (by decide), okm z3 y4 (by decide) (by decide), okm z4 y3 (by decide) (by decide), kk _ (s1.trans s2)⟩

theorem okRootPath {f : Addr} {fd : FuncData} (F : Fun K "root_path" "root_path" s_RootPath f fd) (T : Txt K mg) {fCheckCutting : Addr} {fdCheckCutting : FuncData} (D_CheckCutting : DefAt P w K mg base 4 "check_cutting" fCheckCutting fdCheckCutting ["cutting"] (spCheckCut0)) {fCheckPath : Addr} {fdCheckPath : FuncData} (D_CheckPath : DefAt P w K mg base 3 "check_path" fCheckPath fdCheckPath ["path"] (spCheckPath0)) : FnOk P w K mg base CX0 5 f fd ["cutting", "path"] (spRootPath) := by
  refine F.ok scRootPath (fun vs H Q E h => ?_) (fun cdv A outer s H vs Q E hr h => ?_)
  · obtain ⟨p, r, q, t, rfl, _⟩ := h
    rfl
  · obtain ⟨p, r, q, t, rfl, hp, hr2, zq, zt, kk⟩ := h
    refine ⟨_, (pss_cons (ps_expr (pe_d D_CheckCutting hr (pa_cons (pv 0) pa_nil)))
        (pss_cons (ps_expr (pe_d D_CheckPath hr (pa_cons (pv 1) pa_nil)))
        (pss_cons (ps_asg (pv 0) (pg_tupT 4 rfl (pgs_cons (pg_name (i := 2) scRootPath.nd rfl (Or.inl rfl)) (pgs_cons (pg_name (i := 3) scRootPath.nd rfl (Or.inl rfl)) (pgs_cons (pg_name (i := 4) scRootPath.nd rfl (Or.inl rfl)) (pgs_cons (pg_name (i := 5) scRootPath.nd rfl (Or.inl rfl)) pgs_nil))))))
        (pss_cons (ps_asg (pv 1) (pg_lstT 4 rfl (pgs_cons (pg_name (i := 6) scRootPath.nd rfl (Or.inl rfl)) (pgs_cons (pg_name (i := 7) scRootPath.nd rfl (Or.inl rfl)) (pgs_cons (pg_name (i := 8) scRootPath.nd rfl (Or.inl rfl)) (pgs_cons (pg_name (i := 9) scRootPath.nd rfl (Or.inl rfl)) pgs_nil))))))
        (pss_one (ps_ret (pe_lst (pa_cons (pe_op op_add (pe_op op_add (pe_op op_mulU (pv 5) (pv 6)) (pe_op op_mulU (pv 3) (pv 8))) (pe_op op_mulU (pv 2) (pv 9))) (pa_cons (pe_op op_add (pe_op op_mulU (pv 5) (pv 7)) (pe_op op_mulU (pv 4) (pv 9))) (pa_cons (pe_op op_sub (pe_op op_mulU (pv 4) (pv 6)) (pe_op op_mulU (pv 2) (pv 7))) (pa_cons (pe_op op_mulU (pv 3) (pv 7)) pa_nil))))))))))), ?_⟩
    have e0 : start N_RootPath [.ref p, .ref r] = [some (.ref p), some (.ref r), none, none, none, none, none, none, none, none] := rfl
    rw [e0]
    simp only [cxK, wipe, tYes, List.map_cons, List.map_nil, rIxL, rSum, tSl, rSlL, tNoPart, tPart, exists_and_left, and_assoc, V.ref.injEq, HO.lst.injEq, HO.tup.injEq, tFor_eq, iRng1, iRng2, iList, iTup, tLc_eq, tLst, tTup, gSub, rSetL, gT, gL, gTup, gCons, gNil, atI_0, atI_1, atI_2, atI_3, List.length_cons, List.length_nil, Nat.zero_add, Nat.reduceAdd, Nat.reduceLeDiff, ixN_30, ixN_31, ixN_32, Int.reduceLT, Int.reduceLE, Int.reduceNeg, upd_same, reduceCtorEq, false_and, exists_false, or_false, false_or, tSeq, tNext, tIfS, tRet, tRetN, tDrop, tAsg, gName, tPar, tPar3, tAug, ipI, tVar, tC, tOp, tUn, tCB, tD, tDK, tCons, tNil, rI, rI0, rU, tB, tTest, tCallS, tErr, tAnd, tOr, tNot, tAndV, tOrV, tNotV, tIf, rEq, rNe, scal_ii, scal_bb, scal_ss, rGcd_eq, tBits, List.set_cons_zero, List.set_cons_succ, List.getElem?_cons_zero, List.getElem?_cons_succ, Option.some.injEq, exists_eq_left', V.int.injEq, V.bl.injEq, V.str.injEq, true_and, and_true, decide_eq_true_eq, List.cons.injEq, exists_eq_left, Bool.false_eq_true, if_false, if_true, ite_true, ite_false, Bool.not_eq_true', decide_eq_false_iff_not, Bool.not_not]
    refine ⟨p, q, rfl, hp, fun H1 s1 => ?_⟩
    refine ⟨r, t, rfl, s1 _ _ hr2, fun H2 s2 => ?_⟩
    have e1 : H2 p = some (.tup [.int q.1, .int q.2.1, .int q.2.2.1, .int q.2.2.2]) := s2 _ _ (s1 _ _ hp.at')
    have e2 : H2 r = some (.lst [.int t.1, .int t.2.1, .int t.2.2.1, .int t.2.2.2]) := s2 _ _ (s1 _ _ hr2)
    obtain ⟨z1, z2, z3, z4⟩ := zq
    obtain ⟨y1, y2, y3, y4⟩ := zt
    simp only [cxK, wipe, tYes, List.map_cons, List.map_nil, rIxL, rSum, tSl, rSlL, tNoPart, tPart, exists_and_left, and_assoc, V.ref.injEq, HO.lst.injEq, HO.tup.injEq, tFor_eq, iRng1, iRng2, iList, iTup, tLc_eq, tLst, tTup, gSub, rSetL, gT, gL, gTup, gCons, gNil, atI_0, atI_1, atI_2, atI_3, List.length_cons, List.length_nil, Nat.zero_add, Nat.reduceAdd, Nat.reduceLeDiff, ixN_30, ixN_31, ixN_32, Int.reduceLT, Int.reduceLE, Int.reduceNeg, upd_same, reduceCtorEq, false_and, exists_false, or_false, false_or, tSeq, tNext, tIfS, tRet, tRetN, tDrop, tAsg, gName, tPar, tPar3, tAug, ipI, tVar, tC, tOp, tUn, tCB, tD, tDK, tCons, tNil, rI, rI0, rU, tB, tTest, tCallS, tErr, tAnd, tOr, tNot, tAndV, tOrV, tNotV, tIf, rEq, rNe, scal_ii, scal_bb, scal_ss, rGcd_eq, tBits, List.set_cons_zero, List.set_cons_succ, List.getElem?_cons_zero, List.getElem?_cons_succ, Option.some.injEq, exists_eq_left', V.int.injEq, V.bl.injEq, V.str.injEq, true_and, and_true, decide_eq_true_eq, List.cons.injEq, exists_eq_left, Bool.false_eq_true, if_false, if_true, ite_true, ite_false, Bool.not_eq_true', decide_eq_false_iff_not, Bool.not_not, e1, e2]
    have s12 := s1.trans s2
    exact ⟨okm z4 y1 (by decide) (by decide), okm z2 y3 (by decide) (by decide), okm z1 y4 (by decide) (by decide), okm z4 y2 (by decide) (by decide), okm z3 y4 (by decide) (by decide), okm z3 y1 (by decide) (by decide), okm z1 y2 (by decide) (by decide), okm z2 y2 (by decide) (by decide), sml (by decide), fun s ns => kk s _ (s12.free ns) (s12.trans (Same.upd ns)) upd_same⟩

theorem okLawIsCutting {f : Addr} {fd : FuncData} (F : Fun K "_law_is_cutting" "_law_is_cutting" s_LawIsCutting f fd) (T : Txt K mg) {fLawCommon : Addr} {fdLawCommon : FuncData} (D_LawCommon : DefAt P w K mg base 1 "_law_common" fLawCommon fdLawCommon ["_law_one", "_law_other"] (spCommon)) : FnOk P w K mg base CX0 2 f fd ["_law_a", "_law_b", "_law_c", "_law_e"] (spLawIsCutting) := by
  refine F.ok scLawIsCutting (fun vs H Q E h => ?_) (fun cdv A outer s H vs Q E hr h => ?_)
  · obtain ⟨a, b, c, e, rfl, _⟩ := h
    rfl
  · obtain ⟨a, b, c, e, rfl, kk⟩ := h
    refine ⟨_, (pss_cons (ps_if (PW.pt (pw_or (pt_cmpR op_lt (pv 1) pe_int (nomark _)) (pw_or (pt_cmpR op_lt (pv 2) pe_int (nomark _)) (pw_or (pt_cmpR op_ge (pe_op op_add (pv 2) (pv 3)) (pv 1) (nomark _)) (pw_or1 (pt_not (pt_chain op_le op_lt pe_int (pv 0) (pe_d D_LawCommon hr (pa_cons (pv 1) (pa_cons (pv 2) pa_nil)))))))))) (pss_one (ps_ret pe_bl)) pss_nil)
        (pss_one (ps_ret (pe_cmpR op_eq (pe_d D_LawCommon hr (pa_cons (pe_d D_LawCommon hr (pa_cons (pv 0) (pa_cons (pv 1) pa_nil))) (pa_cons (pe_d D_LawCommon hr (pa_cons (pv 2) (pa_cons (pv 3) pa_nil))) pa_nil))) pe_int (nomark _))))), ?_⟩
    have e0 : start N_LawIsCutting [.int a, .int b, .int c, .int e] = [some (.int a), some (.int b), some (.int c), some (.int e)] := rfl
    rw [e0]
    simp only [cxK, wipe, tYes, List.map_cons, List.map_nil, rIxL, rSum, tSl, rSlL, tNoPart, tPart, exists_and_left, and_assoc, V.ref.injEq, HO.lst.injEq, HO.tup.injEq, tFor_eq, iRng1, iRng2, iList, iTup, tLc_eq, tLst, tTup, gSub, rSetL, gT, gL, gTup, gCons, gNil, atI_0, atI_1, atI_2, atI_3, List.length_cons, List.length_nil, Nat.zero_add, Nat.reduceAdd, Nat.reduceLeDiff, ixN_30, ixN_31, ixN_32, Int.reduceLT, Int.reduceLE, Int.reduceNeg, upd_same, reduceCtorEq, false_and, exists_false, or_false, false_or, tSeq, tNext, tIfS, tRet, tRetN, tDrop, tAsg, gName, tPar, tPar3, tAug, ipI, tVar, tC, tOp, tUn, tCB, tD, tDK, tCons, tNil, rI, rI0, rU, tB, tTest, tCallS, tErr, tAnd, tOr, tNot, tAndV, tOrV, tNotV, tIf, rEq, rNe, scal_ii, scal_bb, scal_ss, rGcd_eq, tBits, List.set_cons_zero, List.set_cons_succ, List.getElem?_cons_zero, List.getElem?_cons_succ, Option.some.injEq, exists_eq_left', V.int.injEq, V.bl.injEq, V.str.injEq, true_and, and_true, decide_eq_true_eq, List.cons.injEq, exists_eq_left, Bool.false_eq_true, if_false, if_true, ite_true, ite_false, Bool.not_eq_true', decide_eq_false_iff_not, Bool.not_not]
    unfold CutOk at kk
    refine ite2 (fun h1 => ?_) (fun h1 => ?_)
    · rw [decide_eq_false (show ¬ 1 ≤ b by omega), Bool.false_and] at kk
      exact kk
    · rw [decide_eq_true (show 1 ≤ b by omega), Bool.true_and] at kk
      refine ite2 (fun h2 => ?_) (fun h2 => ?_)
      · rw [decide_eq_false (show ¬ 1 ≤ c by omega), Bool.false_and] at kk
        exact kk
      · rw [decide_eq_true (show 1 ≤ c by omega), Bool.true_and] at kk
        refine ite2 (fun h3 => ?_) (fun h3 => ?_)
        · rw [decide_eq_false (show ¬ c + e < b by omega), Bool.false_and] at kk
          exact kk
        · rw [decide_eq_true (show c + e < b by omega), Bool.true_and] at kk
          simp only [cxK, wipe, tYes, List.map_cons, List.map_nil, rIxL, rSum, tSl, rSlL, tNoPart, tPart, exists_and_left, and_assoc, V.ref.injEq, HO.lst.injEq, HO.tup.injEq, tFor_eq, iRng1, iRng2, iList, iTup, tLc_eq, tLst, tTup, gSub, rSetL, gT, gL, gTup, gCons, gNil, atI_0, atI_1, atI_2, atI_3, List.length_cons, List.length_nil, Nat.zero_add, Nat.reduceAdd, Nat.reduceLeDiff, ixN_30, ixN_31, ixN_32, Int.reduceLT, Int.reduceLE, Int.reduceNeg, upd_same, reduceCtorEq, false_and, exists_false, or_false, false_or, tSeq, tNext, tIfS, tRet, tRetN, tDrop, tAsg, gName, tPar, tPar3, tAug, ipI, tVar, tC, tOp, tUn, tCB, tD, tDK, tCons, tNil, rI, rI0, rU, tB, tTest, tCallS, tErr, tAnd, tOr, tNot, tAndV, tOrV, tNotV, tIf, rEq, rNe, scal_ii, scal_bb, scal_ss, rGcd_eq, tBits, List.set_cons_zero, List.set_cons_succ, List.getElem?_cons_zero, List.getElem?_cons_succ, Option.some.injEq, exists_eq_left', V.int.injEq, V.bl.injEq, V.str.injEq, true_and, and_true, decide_eq_true_eq, List.cons.injEq, exists_eq_left, Bool.false_eq_true, if_false, if_true, ite_true, ite_false, Bool.not_eq_true', decide_eq_false_iff_not, Bool.not_not, tChain]
          refine ite2 (fun h4 => ?_) (fun h4 => ?_)
          · rw [decide_eq_true h4, Bool.true_and] at kk
            refine ⟨b, c, rfl, _, rfl, ite2 (fun h5 => ?_) (fun h5 => ?_)⟩
            · rw [decide_eq_false h5, Bool.false_and] at kk
              exact kk
            · rw [decide_eq_true (Decidable.not_not.mp h5), Bool.true_and] at kk
              refine ⟨a, b, rfl, c, e, rfl, _, _, rfl, ?_⟩
              simp only [cxK, wipe, tYes, List.map_cons, List.map_nil, rIxL, rSum, tSl, rSlL, tNoPart, tPart, exists_and_left, and_assoc, V.ref.injEq, HO.lst.injEq, HO.tup.injEq, tFor_eq, iRng1, iRng2, iList, iTup, tLc_eq, tLst, tTup, gSub, rSetL, gT, gL, gTup, gCons, gNil, atI_0, atI_1, atI_2, atI_3, List.length_cons, List.length_nil, Nat.zero_add, Nat.reduceAdd, Nat.reduceLeDiff, ixN_30, ixN_31, ixN_32, Int.reduceLT, Int.reduceLE, Int.reduceNeg, upd_same, reduceCtorEq, false_and, exists_false, or_false, false_or, tSeq, tNext, tIfS, tRet, tRetN, tDrop, tAsg, gName, tPar, tPar3, tAug, ipI, tVar, tC, tOp, tUn, tCB, tD, tDK, tCons, tNil, rI, rI0, rU, tB, tTest, tCallS, tErr, tAnd, tOr, tNot, tAndV, tOrV, tNotV, tIf, rEq, rNe, scal_ii, scal_bb, scal_ss, rGcd_eq, tBits, List.set_cons_zero, List.set_cons_succ, List.getElem?_cons_zero, List.getElem?_cons_succ, Option.some.injEq, exists_eq_left', V.int.injEq, V.bl.injEq, V.str.injEq, true_and, and_true, decide_eq_true_eq, List.cons.injEq, exists_eq_left, Bool.false_eq_true, if_false, if_true, ite_true, ite_false, Bool.not_eq_true', decide_eq_false_iff_not, Bool.not_not]
              rw [gcd4]
              exact kk
          · rw [decide_eq_false h4, Bool.false_and] at kk
            exact kk

theorem okLawCrossing {f : Addr} {fd : FuncData} (F : Fun K "_law_crossing" "_law_crossing" s_LawCrossing f fd) (T : Txt K mg) : FnOk P w K mg base CX0 1 f fd ["_law_one", "_law_other"] (spLawCross) := by
  refine F.ok scLawCrossing (fun vs H Q E h => ?_) (fun cdv A outer s H vs Q E hr h => ?_)
  · obtain ⟨p, r, t, u, rfl, _⟩ := h
    rfl
  · obtain ⟨p, r, t, u, rfl, hp, hr2, zt, zu, kk⟩ := h
    refine ⟨_, (pss_one (ps_ret (pe_op op_sub (pe_op op_add (pe_op op_sub (pe_op op_mulU (pe_ix ixL (pv 0) pe_int (fun _ _ => rfl)) (pe_ix ixL (pv 1) pe_int (fun _ _ => rfl))) (pe_op op_mulU (pe_ix ixL (pv 0) pe_int (fun _ _ => rfl)) (pe_ix ixL (pv 1) pe_int (fun _ _ => rfl)))) (pe_op op_mulU (pe_ix ixL (pv 0) pe_int (fun _ _ => rfl)) (pe_ix ixL (pv 1) pe_int (fun _ _ => rfl)))) (pe_op op_mulU (pe_ix ixL (pv 0) pe_int (fun _ _ => rfl)) (pe_ix ixL (pv 1) pe_int (fun _ _ => rfl)))))), ?_⟩
    have e0 : start N_LawCrossing [.ref p, .ref r] = [some (.ref p), some (.ref r)] := rfl
    rw [e0]
    have e1 : H p = some (.lst [.int t.1, .int t.2.1, .int t.2.2.1, .int t.2.2.2]) := hp
    have e2 : H r = some (.lst [.int u.1, .int u.2.1, .int u.2.2.1, .int u.2.2.2]) := hr2
    obtain ⟨z1, z2, z3, z4⟩ := zt
    obtain ⟨y1, y2, y3, y4⟩ := zu
    simp only [cxK, wipe, tYes, List.map_cons, List.map_nil, rIxL, rSum, tSl, rSlL, tNoPart, tPart, exists_and_left, and_assoc, V.ref.injEq, HO.lst.injEq, HO.tup.injEq, tFor_eq, iRng1, iRng2, iList, iTup, tLc_eq, tLst, tTup, gSub, rSetL, gT, gL, gTup, gCons, gNil, atI_0, atI_1, atI_2, atI_3, List.length_cons, List.length_nil, Nat.zero_add, Nat.reduceAdd, Nat.reduceLeDiff, ixN_30, ixN_31, ixN_32, Int.reduceLT, Int.reduceLE, Int.reduceNeg, upd_same, reduceCtorEq, false_and, exists_false, or_false, false_or, tSeq, tNext, tIfS, tRet, tRetN, tDrop, tAsg, gName, tPar, tPar3, tAug, ipI, tVar, tC, tOp, tUn, tCB, tD, tDK, tCons, tNil, rI, rI0, rU, tB, tTest, tCallS, tErr, tAnd, tOr, tNot, tAndV, tOrV, tNotV, tIf, rEq, rNe, scal_ii, scal_bb, scal_ss, rGcd_eq, tBits, List.set_cons_zero, List.set_cons_succ, List.getElem?_cons_zero, List.getElem?_cons_succ, Option.some.injEq, exists_eq_left', V.int.injEq, V.bl.injEq, V.str.injEq, true_and, and_true, decide_eq_true_eq, List.cons.injEq, exists_eq_left, Bool.false_eq_true, if_false, if_true, ite_true, ite_false, Bool.not_eq_true', decide_eq_false_iff_not, Bool.not_not, e1, e2]
    exact ⟨okm z1 y2 (by decide) (by decide), okm z2 y1 (by decide) (by decide), okm z3 y4 (by decide) (by decide), okm z4 y3 (by decide) (by decide), kk⟩

theorem okLawRooted {f : Addr} {fd : FuncData} (F : Fun K "_law_rooted" "_law_rooted" s_LawRooted f fd) (T : Txt K mg) : FnOk P w K mg base CX0 1 f fd ["_law_cutting_here", "_law_path_here"] (spLawRooted) := by
  refine F.ok scLawRooted (fun vs H Q E h => ?_) (fun cdv A outer s H vs Q E hr h => ?_)
  · obtain ⟨p, r, q, t, rfl, _⟩ := h
    rfl
  · obtain ⟨p, r, q, t, rfl, hp, hr2, zq, zt, kk⟩ := h
    refine ⟨_, (pss_cons (ps_asg (pv 0) (pg_tupT 4 rfl (pgs_cons (pg_name (i := 2) scLawRooted.nd rfl (Or.inl rfl)) (pgs_cons (pg_name (i := 3) scLawRooted.nd rfl (Or.inl rfl)) (pgs_cons (pg_name (i := 4) scLawRooted.nd rfl (Or.inl rfl)) (pgs_cons (pg_name (i := 5) scLawRooted.nd rfl (Or.inl rfl)) pgs_nil))))))
        (pss_one (ps_ret (pe_lst (pa_cons (pe_op op_add (pe_op op_add (pe_op op_mulU (pv 5) (pe_ix ixL (pv 1) pe_int (fun _ _ => rfl))) (pe_op op_mulU (pv 3) (pe_ix ixL (pv 1) pe_int (fun _ _ => rfl)))) (pe_op op_mulU (pv 2) (pe_ix ixL (pv 1) pe_int (fun _ _ => rfl)))) (pa_cons (pe_op op_add (pe_op op_mulU (pv 5) (pe_ix ixL (pv 1) pe_int (fun _ _ => rfl))) (pe_op op_mulU (pv 4) (pe_ix ixL (pv 1) pe_int (fun _ _ => rfl)))) (pa_cons (pe_op op_sub (pe_op op_mulU (pv 4) (pe_ix ixL (pv 1) pe_int (fun _ _ => rfl))) (pe_op op_mulU (pv 2) (pe_ix ixL (pv 1) pe_int (fun _ _ => rfl)))) (pa_cons (pe_op op_mulU (pv 3) (pe_ix ixL (pv 1) pe_int (fun _ _ => rfl))) pa_nil)))))))), ?_⟩
    have e0 : start N_LawRooted [.ref p, .ref r] = [some (.ref p), some (.ref r), none, none, none, none] := rfl
    rw [e0]
    have e1 : H p = some (.tup [.int q.1, .int q.2.1, .int q.2.2.1, .int q.2.2.2]) := hp
    have e2 : H r = some (.lst [.int t.1, .int t.2.1, .int t.2.2.1, .int t.2.2.2]) := hr2
    obtain ⟨z1, z2, z3, z4⟩ := zq
    obtain ⟨y1, y2, y3, y4⟩ := zt
    simp only [cxK, wipe, tYes, List.map_cons, List.map_nil, rIxL, rSum, tSl, rSlL, tNoPart, tPart, exists_and_left, and_assoc, V.ref.injEq, HO.lst.injEq, HO.tup.injEq, tFor_eq, iRng1, iRng2, iList, iTup, tLc_eq, tLst, tTup, gSub, rSetL, gT, gL, gTup, gCons, gNil, atI_0, atI_1, atI_2, atI_3, List.length_cons, List.length_nil, Nat.zero_add, Nat.reduceAdd, Nat.reduceLeDiff, ixN_30, ixN_31, ixN_32, Int.reduceLT, Int.reduceLE, Int.reduceNeg, upd_same, reduceCtorEq, false_and, exists_false, or_false, false_or, tSeq, tNext, tIfS, tRet, tRetN, tDrop, tAsg, gName, tPar, tPar3, tAug, ipI, tVar, tC, tOp, tUn, tCB, tD, tDK, tCons, tNil, rI, rI0, rU, tB, tTest, tCallS, tErr, tAnd, tOr, tNot, tAndV, tOrV, tNotV, tIf, rEq, rNe, scal_ii, scal_bb, scal_ss, rGcd_eq, tBits, List.set_cons_zero, List.set_cons_succ, List.getElem?_cons_zero, List.getElem?_cons_succ, Option.some.injEq, exists_eq_left', V.int.injEq, V.bl.injEq, V.str.injEq, true_and, and_true, decide_eq_true_eq, List.cons.injEq, exists_eq_left, Bool.false_eq_true, if_false, if_true, ite_true, ite_false, Bool.not_eq_true', decide_eq_false_iff_not, Bool.not_not, e1, e2]
    exact ⟨okm z4 y1 (by decide) (by decide), okm z2 y3 (by decide) (by decide), okm z1 y4 (by decide) (by decide), okm z4 y2 (by decide) (by decide), okm z3 y4 (by decide) (by decide), okm z3 y1 (by decide) (by decide), okm z1 y2 (by decide) (by decide), okm z2 y2 (by decide) (by decide), sml (by decide), fun s ns => kk s _ ns (Same.upd ns) upd_same⟩

theorem okLawPath {f : Addr} {fd : FuncData} (F : Fun K "_law_path" "_law_path" s_LawPath f fd) (T : Txt K mg) {fLawRandom : Addr} {fdLawRandom : FuncData} (D_LawRandom : DefAt P w K mg base 2 "_law_random" fLawRandom fdLawRandom ["_law_generator_here", "_law_bound"] (spRandom)) : FnOk P w K mg base CX0 3 f fd ["_law_generator_here"] (spLawPath) := by
  refine F.ok scLawPath (fun vs H Q E h => ?_) (fun cdv A outer s H vs Q E hr h => ?_)
  · obtain ⟨g, k, rfl, _⟩ := h
    rfl
  · obtain ⟨g, k, rfl, hG, hk, kk⟩ := h
    refine ⟨_, (pss_cons (ps_set (i := 1) scLawPath.nd rfl (Or.inr rfl) (pe_ix ixL (pe_lst (pa_cons pe_int (pa_cons (pe_op op_powX pe_int pe_int) (pa_cons (pe_op op_powX pe_int pe_int) pa_nil)))) (pe_d D_LawRandom hr (pa_cons (pv 0) (pa_cons pe_int pa_nil))) (fun _ _ => rfl)))
        (pss_one (ps_ret (pe_lc (own := [("_law_at", 2)]) (g := gName 2) (tt := tYes) rfl scLawPath.nd (pi_range1 rfl T.range (pa_cons pe_int pa_nil)) (blkOk_by (N := N_LawPath) (sc := defScope s_LawPath) (by decide +kernel)) (fun _ _ _ _ _ => pg_name (i := 2) scLawPath.nd rfl (Or.inl rfl)) (fun _ _ _ _ _ => pts_nil) (fun _ _ _ _ _ => (pe_op op_sub (pe_d D_LawRandom hr (pa_cons (pv 0) (pa_cons (pe_op op_add (pe_op op_mulU pe_int (pv 1)) pe_int) pa_nil))) (pv 1))))))), ?_⟩
    have e0 : start N_LawPath [.ref g] = [some (.ref g), none, none] := rfl
    rw [e0]
    simp only [cxK, wipe, tYes, List.map_cons, List.map_nil, rIxL, rSum, tSl, rSlL, tNoPart, tPart, exists_and_left, and_assoc, V.ref.injEq, HO.lst.injEq, HO.tup.injEq, tFor_eq, iRng1, iRng2, iList, iTup, tLc_eq, tLst, tTup, gSub, rSetL, gT, gL, gTup, gCons, gNil, atI_0, atI_1, atI_2, atI_3, List.length_cons, List.length_nil, Nat.zero_add, Nat.reduceAdd, Nat.reduceLeDiff, ixN_30, ixN_31, ixN_32, Int.reduceLT, Int.reduceLE, Int.reduceNeg, upd_same, reduceCtorEq, false_and, exists_false, or_false, false_or, tSeq, tNext, tIfS, tRet, tRetN, tDrop, tAsg, gName, tPar, tPar3, tAug, ipI, tVar, tC, tOp, tUn, tCB, tD, tDK, tCons, tNil, rI, rI0, rU, tB, tTest, tCallS, tErr, tAnd, tOr, tNot, tAndV, tOrV, tNotV, tIf, rEq, rNe, scal_ii, scal_bb, scal_ss, rGcd_eq, tBits, List.set_cons_zero, List.set_cons_succ, List.getElem?_cons_zero, List.getElem?_cons_succ, Option.some.injEq, exists_eq_left', V.int.injEq, V.bl.injEq, V.str.injEq, true_and, and_true, decide_eq_true_eq, List.cons.injEq, exists_eq_left, Bool.false_eq_true, if_false, if_true, ite_true, ite_false, Bool.not_eq_true', decide_eq_false_iff_not, Bool.not_not]
    refine ⟨cpow (by decide) (by decide) (by decide) (by decide), cpow (by decide) (by decide) (by decide) (by decide), by decide, fun L nL => ?_⟩
    have hLg := hG.nn nL
    have GL := hG.same (Same.upd (o := .lst [V.int 3, V.int (10 ^ Int.toNat 6), V.int (10 ^ Int.toNat 20)]) nL)
    have KL : Keep g H (upd H L (.lst [V.int 3, V.int (10 ^ Int.toNat 6), V.int (10 ^ Int.toNat 20)])) := Keep.of (Same.upd nL)
    have eL : upd H L (.lst [V.int 3, V.int (10 ^ Int.toNat 6), V.int (10 ^ Int.toNat 20)]) L = some (.lst [V.int 3, V.int (10 ^ Int.toNat 6), V.int (10 ^ Int.toNat 20)]) := upd_same
    generalize upd H L (.lst [V.int 3, V.int (10 ^ Int.toNat 6), V.int (10 ^ Int.toNat 20)]) = H1 at *
    refine ⟨g, 3, k, rfl, GL, by omega, by decide, by decide, fun x H2 x0 x1 G2 K2 => ?_⟩
    obtain ⟨m, hm, m1, m2⟩ : ∃ m : Int, atI [V.int 3, V.int (10 ^ Int.toNat 6), V.int (10 ^ Int.toNat 20)] x = some (.int m) ∧ 3 ≤ m ∧ m ≤ 10 ^ 20 := by
      rcases (show x = 0 ∨ x = 1 ∨ x = 2 by omega) with rfl | rfl | rfl
      · exact ⟨3, rfl, by decide, by decide⟩
      · exact ⟨_, rfl, by decide +kernel, by decide +kernel⟩
      · exact ⟨_, rfl, by decide +kernel, by decide +kernel⟩
    refine ⟨_, x, rfl, K2 _ _ hLg eL, _, hm, ?_⟩
    refine ⟨by decide, by decide, fun Dd nD => ?_⟩
    have K02 : Keep g H H2 := KL.trans K2
    refine lcW_range (InvDr g Dd (k + 20) 80 H2) ⟨[], upd_same, rfl, fun n hn => absurd hn List.not_mem_nil, G2.upd (G2.nn nD), (Keep.refl g H2).upd nD, G2.nn nD⟩ (fun i H3 hi z => ?_) (fun H3 z => ?_)
    · refine ⟨rfl, ?_⟩
      simp only [cxK, wipe, tYes, List.map_cons, List.map_nil, rIxL, rSum, tSl, rSlL, tNoPart, tPart, exists_and_left, and_assoc, V.ref.injEq, HO.lst.injEq, HO.tup.injEq, tFor_eq, iRng1, iRng2, iList, iTup, tLc_eq, tLst, tTup, gSub, rSetL, gT, gL, gTup, gCons, gNil, atI_0, atI_1, atI_2, atI_3, List.length_cons, List.length_nil, Nat.zero_add, Nat.reduceAdd, Nat.reduceLeDiff, ixN_30, ixN_31, ixN_32, Int.reduceLT, Int.reduceLE, Int.reduceNeg, upd_same, reduceCtorEq, false_and, exists_false, or_false, false_or, tSeq, tNext, tIfS, tRet, tRetN, tDrop, tAsg, gName, tPar, tPar3, tAug, ipI, tVar, tC, tOp, tUn, tCB, tD, tDK, tCons, tNil, rI, rI0, rU, tB, tTest, tCallS, tErr, tAnd, tOr, tNot, tAndV, tOrV, tNotV, tIf, rEq, rNe, scal_ii, scal_bb, scal_ss, rGcd_eq, tBits, List.set_cons_zero, List.set_cons_succ, List.getElem?_cons_zero, List.getElem?_cons_succ, Option.some.injEq, exists_eq_left', V.int.injEq, V.bl.injEq, V.str.injEq, true_and, and_true, decide_eq_true_eq, List.cons.injEq, exists_eq_left, Bool.false_eq_true, if_false, if_true, ite_true, ite_false, Bool.not_eq_true', decide_eq_false_iff_not, Bool.not_not]
      obtain ⟨ns, eD, hl, hall, G3, K3, hDg⟩ := z
      have hi4 : i < 4 := hi
      refine ⟨cml (by decide) (by decide), ?_⟩
      refine ⟨g, _, k + 20 + 20 * i, rfl, G3, by omega, by omega, by omega, fun r H4 r0 r1 G4 K4 => ⟨r, rfl, ?_⟩⟩
      refine ⟨_, K4 _ _ hDg eD, small1K (by rw [List.length_map]; omega), ns ++ [r - m], by rw [upd_same, List.map_append]; rfl, by rw [List.length_append, hl]; rfl, fun n hn => ?_, (G4.upd hDg).mono (by omega), (K3.trans K4).upd nD, hDg⟩
      rcases List.mem_append.mp hn with hn | hn
      · exact hall n hn
      · rw [List.mem_singleton.mp hn]
        omega
    · obtain ⟨ns, eD, hl, hall, G3, K3, hDg⟩ := z
      match ns, hl with
      | [a, b, c, d], _ =>
        exact kk (a, b, c, d) Dd _ ⟨hall a (by simp), hall b (by simp), hall c (by simp), hall d (by simp)⟩ (K02.free hDg nD) eD (G3.mono (by omega)) (K02.trans K3)

theorem okLawSum {f : Addr} {fd : FuncData} (F : Fun K "_law_sum" "_law_sum" s_LawSum f fd) (T : Txt K mg) : FnOk P w K mg base CX0 1 f fd ["_law_one", "_law_other", "_law_often"] (spLawSum) := by
  refine F.ok scLawSum (fun vs H Q E h => ?_) (fun cdv A outer s H vs Q E hr h => ?_)
  · obtain ⟨p, r, t, u, n, rfl, _⟩ := h
    rfl
  · obtain ⟨p, r, t, u, n, rfl, hp, hr2, zu, hn, kk⟩ := h
    refine ⟨_, (pss_one (ps_ret (pe_lc (own := [("_law_low", 3), ("_law_high", 4)]) (g := gT 2 (gCons (gName 3) (gCons (gName 4) gNil))) (tt := tYes) rfl scLawSum.nd (pi_zip (by rfl) T.zip (pa_cons (pv 0) (pa_cons (pv 1) pa_nil))) (blkOk_by (N := N_LawSum) (sc := defScope s_LawSum) (by decide +kernel)) (fun _ _ _ _ _ => pg_tupT 2 rfl (pgs_cons (pg_name (i := 3) scLawSum.nd rfl (Or.inl rfl)) (pgs_cons (pg_name (i := 4) scLawSum.nd rfl (Or.inl rfl)) pgs_nil))) (fun _ _ _ _ _ => pts_nil) (fun _ _ _ _ _ => (pe_op op_add (pv 3) (pe_op op_mulU (pv 2) (pv 4))))))), ?_⟩
    have e0 : start N_LawSum [.ref p, .ref r, .int n] = [some (.ref p), some (.ref r), some (.int n), none, none] := rfl
    rw [e0]
    simp only [cxK, wipe, tYes, List.map_cons, List.map_nil, rIxL, rSum, tSl, rSlL, tNoPart, tPart, exists_and_left, and_assoc, V.ref.injEq, HO.lst.injEq, HO.tup.injEq, tFor_eq, iRng1, iRng2, iList, iTup, tLc_eq, tLst, tTup, gSub, rSetL, gT, gL, gTup, gCons, gNil, atI_0, atI_1, atI_2, atI_3, List.length_cons, List.length_nil, Nat.zero_add, Nat.reduceAdd, Nat.reduceLeDiff, ixN_30, ixN_31, ixN_32, Int.reduceLT, Int.reduceLE, Int.reduceNeg, upd_same, reduceCtorEq, false_and, exists_false, or_false, false_or, tSeq, tNext, tIfS, tRet, tRetN, tDrop, tAsg, gName, tPar, tPar3, tAug, ipI, tVar, tC, tOp, tUn, tCB, tD, tDK, tCons, tNil, rI, rI0, rU, tB, tTest, tCallS, tErr, tAnd, tOr, tNot, tAndV, tOrV, tNotV, tIf, rEq, rNe, scal_ii, scal_bb, scal_ss, rGcd_eq, tBits, List.set_cons_zero, List.set_cons_succ, List.getElem?_cons_zero, List.getElem?_cons_succ, Option.some.injEq, exists_eq_left', V.int.injEq, V.bl.injEq, V.str.injEq, true_and, and_true, decide_eq_true_eq, List.cons.injEq, exists_eq_left, Bool.false_eq_true, if_false, if_true, ite_true, ite_false, Bool.not_eq_true', decide_eq_false_iff_not, Bool.not_not, iZip]
    refine ⟨_, SqL.of hp, _, SqL.of hr2, fun Dd nD => ?_⟩
    refine lcW_zip (xs := cutV4 t) (ys := cutV4 u) rfl (InvTk H Dd (cutV4 (sumZ t u n))) ⟨Same.upd nD, upd_same⟩ (fun i H2 z => ⟨SqL.of (z.1 _ _ hp), SqL.of (z.1 _ _ hr2)⟩) ?_ ?_
    · rintro i x y T H2 hx hy z nT
      have hi : i < 4 := (List.getElem?_eq_some_iff.mp hx).1
      obtain ⟨a, b, rfl, rfl, hb, hs⟩ : ∃ a b : Int, x = .int a ∧ y = .int b ∧ b.natAbs < 2 ^ 900 ∧ (cutV4 (sumZ t u n))[i]? = some (.int (a + n * b)) := by
        obtain ⟨y1, y2, y3, y4⟩ := zu
        rcases (show i = 0 ∨ i = 1 ∨ i = 2 ∨ i = 3 by omega) with rfl | rfl | rfl | rfl
        · exact ⟨_, _, (Option.some.inj hx).symm, (Option.some.inj hy).symm, y1, rfl⟩
        · exact ⟨_, _, (Option.some.inj hx).symm, (Option.some.inj hy).symm, y2, rfl⟩
        · exact ⟨_, _, (Option.some.inj hx).symm, (Option.some.inj hy).symm, y3, rfl⟩
        · exact ⟨_, _, (Option.some.inj hx).symm, (Option.some.inj hy).symm, y4, rfl⟩
      simp only [cxK, wipe, tYes, List.map_cons, List.map_nil, rIxL, rSum, tSl, rSlL, tNoPart, tPart, exists_and_left, and_assoc, V.ref.injEq, HO.lst.injEq, HO.tup.injEq, tFor_eq, iRng1, iRng2, iList, iTup, tLc_eq, tLst, tTup, gSub, rSetL, gT, gL, gTup, gCons, gNil, atI_0, atI_1, atI_2, atI_3, List.length_cons, List.length_nil, Nat.zero_add, Nat.reduceAdd, Nat.reduceLeDiff, ixN_30, ixN_31, ixN_32, Int.reduceLT, Int.reduceLE, Int.reduceNeg, upd_same, reduceCtorEq, false_and, exists_false, or_false, false_or, tSeq, tNext, tIfS, tRet, tRetN, tDrop, tAsg, gName, tPar, tPar3, tAug, ipI, tVar, tC, tOp, tUn, tCB, tD, tDK, tCons, tNil, rI, rI0, rU, tB, tTest, tCallS, tErr, tAnd, tOr, tNot, tAndV, tOrV, tNotV, tIf, rEq, rNe, scal_ii, scal_bb, scal_ss, rGcd_eq, tBits, List.set_cons_zero, List.set_cons_succ, List.getElem?_cons_zero, List.getElem?_cons_succ, Option.some.injEq, exists_eq_left', V.int.injEq, V.bl.injEq, V.str.injEq, true_and, and_true, decide_eq_true_eq, List.cons.injEq, exists_eq_left, Bool.false_eq_true, if_false, if_true, ite_true, ite_false, Bool.not_eq_true', decide_eq_false_iff_not, Bool.not_not]
      exact ⟨okm hn hb (by decide) (by decide), z.push nD (Same.upd nT) hs (show 4 ≤ 1000 by decide)⟩
    · rintro H2 ⟨s2, e2⟩
      exact kk Dd _ nD s2 e2

theorem okLawCutting {f : Addr} {fd : FuncData} (F : Fun K "_law_cutting" "_law_cutting" s_LawCutting f fd) (T : Txt K mg) {fLawRandom : Addr} {fdLawRandom : FuncData} (D_LawRandom : DefAt P w K mg base 2 "_law_random" fLawRandom fdLawRandom ["_law_generator_here", "_law_bound"] (spRandom)) {fLawIsCutting : Addr} {fdLawIsCutting : FuncData} (D_LawIsCutting : DefAt P w K mg base 2 "_law_is_cutting" fLawIsCutting fdLawIsCutting ["_law_a", "_law_b", "_law_c", "_law_e"] (spLawIsCutting)) {fLawCommon : Addr} {fdLawCommon : FuncData} (D_LawCommon : DefAt P w K mg base 1 "_law_common" fLawCommon fdLawCommon ["_law_one", "_law_other"] (spCommon)) : FnOk P w K mg base CX0 3 f fd ["_law_generator_here", "_law_most"] (spLawCut40) := by
  refine F.ok scLawCutting (fun vs H Q E h => ?_) (fun cdv A outer s H vs Q E hr h => ?_)
  · obtain ⟨g, n, k, rfl, _⟩ := h
    rfl
  · obtain ⟨g, n, k, rfl, hG, hk, hn1, hn2, kk⟩ := h
    refine ⟨_, (pss_cons (ps_for PassesOwn.never rfl (pi_range1 rfl T.range (pa_cons pe_int pa_nil)) (pg_name (i := 2) scLawCutting.nd rfl (Or.inl rfl)) (pss_cons (ps_par (i := 3) (j := 4) rfl scLawCutting.nd rfl rfl (by decide) rfl rfl (pa_cons (pe_op op_add pe_int (pe_d D_LawRandom hr (pa_cons (pv 0) (pa_cons (pv 1) pa_nil)))) (pa_cons (pe_op op_add pe_int (pe_d D_LawRandom hr (pa_cons (pv 0) (pa_cons (pv 1) pa_nil)))) pa_nil)) rfl)
        (pss_cons (ps_if (pt_cmpR op_eq (pe_d D_LawRandom hr (pa_cons (pv 0) (pa_cons pe_int pa_nil))) pe_int (nomark _)) (pss_cons (ps_set (i := 5) scLawCutting.nd rfl (Or.inl rfl) (pe_op op_add pe_int (pe_d D_LawRandom hr (pa_cons (pv 0) (pa_cons pe_int pa_nil)))))
        (pss_one (ps_par (i := 3) (j := 4) rfl scLawCutting.nd rfl rfl (by decide) rfl rfl (pa_cons (pe_op op_mulU (pv 3) (pv 5)) (pa_cons (pe_op op_mulU (pv 4) (pv 5)) pa_nil)) rfl))) pss_nil)
        (pss_cons (ps_set (i := 6) scLawCutting.nd rfl (Or.inl rfl) (pe_op op_sub (pe_op op_sub (pe_op op_sub (pv 3) (pv 4)) pe_int) (pe_d D_LawRandom hr (pa_cons (pv 0) (pa_cons (pe_op op_mulU pe_int (pv 1)) pa_nil)))))
        (pss_cons (ps_set (i := 7) scLawCutting.nd rfl (Or.inl rfl) (pe_d D_LawRandom hr (pa_cons (pv 0) (pa_cons (pe_d D_LawCommon hr (pa_cons (pv 3) (pa_cons (pv 4) pa_nil))) pa_nil))))
        (pss_one (ps_if (pt_val (pe_d D_LawIsCutting hr (pa_cons (pv 7) (pa_cons (pv 3) (pa_cons (pv 4) (pa_cons (pv 6) pa_nil)))))) (pss_one (ps_ret (pe_tup (pa_cons (pv 7) (pa_cons (pv 3) (pa_cons (pv 4) (pa_cons (pv 6) pa_nil))))))) pss_nil)))))))
        (pss_one (ps_ret (pe_tup (pa_cons pe_int (pa_cons (pe_op op_add pe_int (pv 1)) (pa_cons pe_int (pa_cons (pe_op op_sub pe_int pe_int) pa_nil)))))))), ?_⟩
    have e0 : start N_LawCutting [.ref g, .int n] = [some (.ref g), some (.int n), none, none, none, none, none, none] := rfl
    rw [e0]
    refine seq_gen fun C1 hC1 => ?_
    simp only [cxK, wipe, tYes, List.map_cons, List.map_nil, rIxL, rSum, tSl, rSlL, tNoPart, tPart, exists_and_left, and_assoc, V.ref.injEq, HO.lst.injEq, HO.tup.injEq, tFor_eq, iRng1, iRng2, iList, iTup, tLc_eq, tLst, tTup, gSub, rSetL, gT, gL, gTup, gCons, gNil, atI_0, atI_1, atI_2, atI_3, List.length_cons, List.length_nil, Nat.zero_add, Nat.reduceAdd, Nat.reduceLeDiff, ixN_30, ixN_31, ixN_32, Int.reduceLT, Int.reduceLE, Int.reduceNeg, upd_same, reduceCtorEq, false_and, exists_false, or_false, false_or, tNext, tIfS, tRet, tRetN, tDrop, tAsg, gName, tPar, tPar3, tAug, ipI, tVar, tC, tOp, tUn, tCB, tD, tDK, tCons, tNil, rI, rI0, rU, tB, tTest, tCallS, tErr, tAnd, tOr, tNot, tAndV, tOrV, tNotV, tIf, rEq, rNe, scal_ii, scal_bb, scal_ss, rGcd_eq, tBits, List.set_cons_zero, List.set_cons_succ, List.getElem?_cons_zero, List.getElem?_cons_succ, Option.some.injEq, exists_eq_left', V.int.injEq, V.bl.injEq, V.str.injEq, true_and, and_true, decide_eq_true_eq, List.cons.injEq, exists_eq_left, Bool.false_eq_true, if_false, if_true, ite_true, ite_false, Bool.not_eq_true', decide_eq_false_iff_not, Bool.not_not]
    refine ⟨by decide, by decide, ?_⟩
    refine forW_range (InvLC g n k H) ⟨none, none, none, none, none, none, rfl, hG, Keep.refl _ _⟩ ?_ (fun σ' H2 z => ?_)
    · rintro i σ' H2 hi ⟨t2, t3, t4, t5, t6, t7, rfl, G2, K2⟩
      have hi30 : i < 30 := hi
      simp only [cxK, wipe, tYes, List.map_cons, List.map_nil, rIxL, rSum, tSl, rSlL, tNoPart, tPart, exists_and_left, and_assoc, V.ref.injEq, HO.lst.injEq, HO.tup.injEq, tFor_eq, iRng1, iRng2, iList, iTup, tLc_eq, tLst, tTup, gSub, rSetL, gT, gL, gTup, gCons, gNil, atI_0, atI_1, atI_2, atI_3, List.length_cons, List.length_nil, Nat.zero_add, Nat.reduceAdd, Nat.reduceLeDiff, ixN_30, ixN_31, ixN_32, Int.reduceLT, Int.reduceLE, Int.reduceNeg, upd_same, reduceCtorEq, false_and, exists_false, or_false, false_or, tNext, tIfS, tRet, tRetN, tDrop, tAsg, gName, tPar, tPar3, tAug, ipI, tVar, tC, tOp, tUn, tCB, tD, tDK, tCons, tNil, rI, rI0, rU, tB, tTest, tCallS, tErr, tAnd, tOr, tNot, tAndV, tOrV, tNotV, tIf, rEq, rNe, scal_ii, scal_bb, scal_ss, rGcd_eq, tBits, List.set_cons_zero, List.set_cons_succ, List.getElem?_cons_zero, List.getElem?_cons_succ, Option.some.injEq, exists_eq_left', V.int.injEq, V.bl.injEq, V.str.injEq, true_and, and_true, decide_eq_true_eq, List.cons.injEq, exists_eq_left, Bool.false_eq_true, if_false, if_true, ite_true, ite_false, Bool.not_eq_true', decide_eq_false_iff_not, Bool.not_not]
      refine seq_gen fun C2 hC2 => ?_
      simp only [cxK, wipe, tYes, List.map_cons, List.map_nil, rIxL, rSum, tSl, rSlL, tNoPart, tPart, exists_and_left, and_assoc, V.ref.injEq, HO.lst.injEq, HO.tup.injEq, tFor_eq, iRng1, iRng2, iList, iTup, tLc_eq, tLst, tTup, gSub, rSetL, gT, gL, gTup, gCons, gNil, atI_0, atI_1, atI_2, atI_3, List.length_cons, List.length_nil, Nat.zero_add, Nat.reduceAdd, Nat.reduceLeDiff, ixN_30, ixN_31, ixN_32, Int.reduceLT, Int.reduceLE, Int.reduceNeg, upd_same, reduceCtorEq, false_and, exists_false, or_false, false_or, tNext, tIfS, tRet, tRetN, tDrop, tAsg, gName, tPar, tPar3, tAug, ipI, tVar, tC, tOp, tUn, tCB, tD, tDK, tCons, tNil, rI, rI0, rU, tB, tTest, tCallS, tErr, tAnd, tOr, tNot, tAndV, tOrV, tNotV, tIf, rEq, rNe, scal_ii, scal_bb, scal_ss, rGcd_eq, tBits, List.set_cons_zero, List.set_cons_succ, List.getElem?_cons_zero, List.getElem?_cons_succ, Option.some.injEq, exists_eq_left', V.int.injEq, V.bl.injEq, V.str.injEq, true_and, and_true, decide_eq_true_eq, List.cons.injEq, exists_eq_left, Bool.false_eq_true, if_false, if_true, ite_true, ite_false, Bool.not_eq_true', decide_eq_false_iff_not, Bool.not_not]
      refine ⟨g, n, _, rfl, G2, by omega, hn1, by omega, fun b H3 b0 b1 G3 K3 => ⟨b, rfl, ?_⟩⟩
      refine ⟨g, n, _, rfl, G3, by omega, hn1, by omega, fun c H4 c0 c1 G4 K4 => ⟨c, rfl, ?_⟩⟩
      refine Eq.mpr (hC2 _ _) ?_
      refine seq_gen fun C3 hC3 => ?_
      simp only [cxK, wipe, tYes, List.map_cons, List.map_nil, rIxL, rSum, tSl, rSlL, tNoPart, tPart, exists_and_left, and_assoc, V.ref.injEq, HO.lst.injEq, HO.tup.injEq, tFor_eq, iRng1, iRng2, iList, iTup, tLc_eq, tLst, tTup, gSub, rSetL, gT, gL, gTup, gCons, gNil, atI_0, atI_1, atI_2, atI_3, List.length_cons, List.length_nil, Nat.zero_add, Nat.reduceAdd, Nat.reduceLeDiff, ixN_30, ixN_31, ixN_32, Int.reduceLT, Int.reduceLE, Int.reduceNeg, upd_same, reduceCtorEq, false_and, exists_false, or_false, false_or, tNext, tIfS, tRet, tRetN, tDrop, tAsg, gName, tPar, tPar3, tAug, ipI, tVar, tC, tOp, tUn, tCB, tD, tDK, tCons, tNil, rI, rI0, rU, tB, tTest, tCallS, tErr, tAnd, tOr, tNot, tAndV, tOrV, tNotV, tIf, rEq, rNe, scal_ii, scal_bb, scal_ss, rGcd_eq, tBits, List.set_cons_zero, List.set_cons_succ, List.getElem?_cons_zero, List.getElem?_cons_succ, Option.some.injEq, exists_eq_left', V.int.injEq, V.bl.injEq, V.str.injEq, true_and, and_true, decide_eq_true_eq, List.cons.injEq, exists_eq_left, Bool.false_eq_true, if_false, if_true, ite_true, ite_false, Bool.not_eq_true', decide_eq_false_iff_not, Bool.not_not]
      have main : ∀ (B C : Int) (t5 : Option V) (H5 : Hp), 1 ≤ B → B ≤ 4 * n → 1 ≤ C → C ≤ 4 * n → GenAt H5 g (k + 200 * i + 80) → Keep g H2 H5 → C3 [some (.ref g), some (.int n), some (.int (0 + (i : Int))), some (.int B), some (.int C), t5, t6, t7] H5 := by
        intro B C t5 H5 hB hB2 hC hC2 G5 K5
        refine Eq.mpr (hC3 _ _) ?_
        refine seq_gen fun C4 hC4 => ?_
        simp only [cxK, wipe, tYes, List.map_cons, List.map_nil, rIxL, rSum, tSl, rSlL, tNoPart, tPart, exists_and_left, and_assoc, V.ref.injEq, HO.lst.injEq, HO.tup.injEq, tFor_eq, iRng1, iRng2, iList, iTup, tLc_eq, tLst, tTup, gSub, rSetL, gT, gL, gTup, gCons, gNil, atI_0, atI_1, atI_2, atI_3, List.length_cons, List.length_nil, Nat.zero_add, Nat.reduceAdd, Nat.reduceLeDiff, ixN_30, ixN_31, ixN_32, Int.reduceLT, Int.reduceLE, Int.reduceNeg, upd_same, reduceCtorEq, false_and, exists_false, or_false, false_or, tNext, tIfS, tRet, tRetN, tDrop, tAsg, gName, tPar, tPar3, tAug, ipI, tVar, tC, tOp, tUn, tCB, tD, tDK, tCons, tNil, rI, rI0, rU, tB, tTest, tCallS, tErr, tAnd, tOr, tNot, tAndV, tOrV, tNotV, tIf, rEq, rNe, scal_ii, scal_bb, scal_ss, rGcd_eq, tBits, List.set_cons_zero, List.set_cons_succ, List.getElem?_cons_zero, List.getElem?_cons_succ, Option.some.injEq, exists_eq_left', V.int.injEq, V.bl.injEq, V.str.injEq, true_and, and_true, decide_eq_true_eq, List.cons.injEq, exists_eq_left, Bool.false_eq_true, if_false, if_true, ite_true, ite_false, Bool.not_eq_true', decide_eq_false_iff_not, Bool.not_not]
        refine ⟨cml (by decide) (by decide), ?_⟩
        refine ⟨g, _, _, rfl, G5, by omega, by omega, by omega, fun r H6 r0 r1 G6 K6 => ⟨r, rfl, ?_⟩⟩
        refine Eq.mpr (hC4 _ _) ?_
        refine seq_gen fun C5 hC5 => ?_
        simp only [cxK, wipe, tYes, List.map_cons, List.map_nil, rIxL, rSum, tSl, rSlL, tNoPart, tPart, exists_and_left, and_assoc, V.ref.injEq, HO.lst.injEq, HO.tup.injEq, tFor_eq, iRng1, iRng2, iList, iTup, tLc_eq, tLst, tTup, gSub, rSetL, gT, gL, gTup, gCons, gNil, atI_0, atI_1, atI_2, atI_3, List.length_cons, List.length_nil, Nat.zero_add, Nat.reduceAdd, Nat.reduceLeDiff, ixN_30, ixN_31, ixN_32, Int.reduceLT, Int.reduceLE, Int.reduceNeg, upd_same, reduceCtorEq, false_and, exists_false, or_false, false_or, tNext, tIfS, tRet, tRetN, tDrop, tAsg, gName, tPar, tPar3, tAug, ipI, tVar, tC, tOp, tUn, tCB, tD, tDK, tCons, tNil, rI, rI0, rU, tB, tTest, tCallS, tErr, tAnd, tOr, tNot, tAndV, tOrV, tNotV, tIf, rEq, rNe, scal_ii, scal_bb, scal_ss, rGcd_eq, tBits, List.set_cons_zero, List.set_cons_succ, List.getElem?_cons_zero, List.getElem?_cons_succ, Option.some.injEq, exists_eq_left', V.int.injEq, V.bl.injEq, V.str.injEq, true_and, and_true, decide_eq_true_eq, List.cons.injEq, exists_eq_left, Bool.false_eq_true, if_false, if_true, ite_true, ite_false, Bool.not_eq_true', decide_eq_false_iff_not, Bool.not_not]
        have gp := gcdI_pos (a := B) (b := C) (by omega)
        have gl := gcdI_le (a := B) (b := C) (by omega)
        refine ⟨_, _, rfl, ?_⟩
        refine ⟨g, _, _, rfl, G6, by omega, by omega, by omega, fun a H7 a0 a1 G7 K7 => ?_⟩
        refine Eq.mpr (hC5 _ _) ?_
        simp only [cxK, wipe, tYes, List.map_cons, List.map_nil, rIxL, rSum, tSl, rSlL, tNoPart, tPart, exists_and_left, and_assoc, V.ref.injEq, HO.lst.injEq, HO.tup.injEq, tFor_eq, iRng1, iRng2, iList, iTup, tLc_eq, tLst, tTup, gSub, rSetL, gT, gL, gTup, gCons, gNil, atI_0, atI_1, atI_2, atI_3, List.length_cons, List.length_nil, Nat.zero_add, Nat.reduceAdd, Nat.reduceLeDiff, ixN_30, ixN_31, ixN_32, Int.reduceLT, Int.reduceLE, Int.reduceNeg, upd_same, reduceCtorEq, false_and, exists_false, or_false, false_or, tNext, tIfS, tRet, tRetN, tDrop, tAsg, gName, tPar, tPar3, tAug, ipI, tVar, tC, tOp, tUn, tCB, tD, tDK, tCons, tNil, rI, rI0, rU, tB, tTest, tCallS, tErr, tAnd, tOr, tNot, tAndV, tOrV, tNotV, tIf, rEq, rNe, scal_ii, scal_bb, scal_ss, rGcd_eq, tBits, List.set_cons_zero, List.set_cons_succ, List.getElem?_cons_zero, List.getElem?_cons_succ, Option.some.injEq, exists_eq_left', V.int.injEq, V.bl.injEq, V.str.injEq, true_and, and_true, decide_eq_true_eq, List.cons.injEq, exists_eq_left, Bool.false_eq_true, if_false, if_true, ite_true, ite_false, Bool.not_eq_true', decide_eq_false_iff_not, Bool.not_not]
        refine ⟨_, _, _, _, rfl, _, rfl, ?_⟩
        have K27 : Keep g H2 H7 := (K5.trans K6).trans K7
        cases hq : CutOk a B C (B - C - 1 - r) with
        | true =>
          rw [if_pos rfl]
          refine ⟨sml (by decide), fun p np => ?_⟩
          have hpg := G7.nn np
          exact kk (a, B, C, B - C - 1 - r) p _ hq ⟨show a.natAbs < 2 ^ 70 by omega, show B.natAbs < 2 ^ 70 by omega, show C.natAbs < 2 ^ 70 by omega, show (B - C - 1 - r).natAbs < 2 ^ 70 by omega⟩ ((K2.trans K27).free hpg np) upd_same ((G7.upd hpg).mono (by omega)) ((K2.trans K27).trans (Keep.of (Same.upd np)))
        | false =>
          rw [if_neg (by decide)]
          exact ⟨_, _, _, _, _, _, rfl, G7.mono (by omega), K2.trans K27⟩
      refine ⟨g, 3, _, rfl, G4, by omega, by decide, by decide, fun x H5 x0 x1 G5 K5 => ⟨rfl, ?_⟩⟩
      have K25 : Keep g H2 H5 := (K3.trans K4).trans K5
      refine ite2 (fun hx => ?_) (fun hx => ?_)
      · simp only [cxK, wipe, tYes, List.map_cons, List.map_nil, rIxL, rSum, tSl, rSlL, tNoPart, tPart, exists_and_left, and_assoc, V.ref.injEq, HO.lst.injEq, HO.tup.injEq, tFor_eq, iRng1, iRng2, iList, iTup, tLc_eq, tLst, tTup, gSub, rSetL, gT, gL, gTup, gCons, gNil, atI_0, atI_1, atI_2, atI_3, List.length_cons, List.length_nil, Nat.zero_add, Nat.reduceAdd, Nat.reduceLeDiff, ixN_30, ixN_31, ixN_32, Int.reduceLT, Int.reduceLE, Int.reduceNeg, upd_same, reduceCtorEq, false_and, exists_false, or_false, false_or, tSeq, tNext, tIfS, tRet, tRetN, tDrop, tAsg, gName, tPar, tPar3, tAug, ipI, tVar, tC, tOp, tUn, tCB, tD, tDK, tCons, tNil, rI, rI0, rU, tB, tTest, tCallS, tErr, tAnd, tOr, tNot, tAndV, tOrV, tNotV, tIf, rEq, rNe, scal_ii, scal_bb, scal_ss, rGcd_eq, tBits, List.set_cons_zero, List.set_cons_succ, List.getElem?_cons_zero, List.getElem?_cons_succ, Option.some.injEq, exists_eq_left', V.int.injEq, V.bl.injEq, V.str.injEq, true_and, and_true, decide_eq_true_eq, List.cons.injEq, exists_eq_left, Bool.false_eq_true, if_false, if_true, ite_true, ite_false, Bool.not_eq_true', decide_eq_false_iff_not, Bool.not_not]
        refine ⟨g, 3, _, rfl, G5, by omega, by decide, by decide, fun y H6 y0 y1 G6 K6 => ⟨y, rfl, ?_⟩⟩
        have w0 : (2 + y).natAbs < 2 ^ 3 := by omega
        have w1 : (1 + b).natAbs < 2 ^ 51 := by omega
        have w2 : (1 + c).natAbs < 2 ^ 51 := by omega
        refine ⟨okm w1 w0 (by decide) (by decide), okm w2 w0 (by decide) (by decide), ?_⟩
        have q1 : 1 * 2 ≤ (1 + b) * (2 + y) := Int.mul_le_mul (by omega) (by omega) (by decide) (by omega)
        have q2 : (1 + b) * (2 + y) ≤ n * 4 := Int.mul_le_mul (by omega) (by omega) (by omega) (by omega)
        have q3 : 1 * 2 ≤ (1 + c) * (2 + y) := Int.mul_le_mul (by omega) (by omega) (by decide) (by omega)
        have q4 : (1 + c) * (2 + y) ≤ n * 4 := Int.mul_le_mul (by omega) (by omega) (by omega) (by omega)
        exact main _ _ _ _ (by omega) (by omega) (by omega) (by omega) (G6.mono (by omega)) (K25.trans K6)
      · exact main _ _ _ _ (by omega) (by omega) (by omega) (by omega) (G5.mono (by omega)) K25
    · obtain ⟨t2, t3, t4, t5, t6, t7, rfl, G2, K2⟩ := z
      refine Eq.mpr (hC1 _ _) ?_
      simp only [cxK, wipe, tYes, List.map_cons, List.map_nil, rIxL, rSum, tSl, rSlL, tNoPart, tPart, exists_and_left, and_assoc, V.ref.injEq, HO.lst.injEq, HO.tup.injEq, tFor_eq, iRng1, iRng2, iList, iTup, tLc_eq, tLst, tTup, gSub, rSetL, gT, gL, gTup, gCons, gNil, atI_0, atI_1, atI_2, atI_3, List.length_cons, List.length_nil, Nat.zero_add, Nat.reduceAdd, Nat.reduceLeDiff, ixN_30, ixN_31, ixN_32, Int.reduceLT, Int.reduceLE, Int.reduceNeg, upd_same, reduceCtorEq, false_and, exists_false, or_false, false_or, tNext, tIfS, tRet, tRetN, tDrop, tAsg, gName, tPar, tPar3, tAug, ipI, tVar, tC, tOp, tUn, tCB, tD, tDK, tCons, tNil, rI, rI0, rU, tB, tTest, tCallS, tErr, tAnd, tOr, tNot, tAndV, tOrV, tNotV, tIf, rEq, rNe, scal_ii, scal_bb, scal_ss, rGcd_eq, tBits, List.set_cons_zero, List.set_cons_succ, List.getElem?_cons_zero, List.getElem?_cons_succ, Option.some.injEq, exists_eq_left', V.int.injEq, V.bl.injEq, V.str.injEq, true_and, and_true, decide_eq_true_eq, List.cons.injEq, exists_eq_left, Bool.false_eq_true, if_false, if_true, ite_true, ite_false, Bool.not_eq_true', decide_eq_false_iff_not, Bool.not_not]
      refine ⟨sml (by decide), fun p np => ?_⟩
      have hpg := G2.nn np
      exact kk (0, 1 + n, 1, 0 - 1) p _ (ok_low hn1) ⟨show (0 : Int).natAbs < 2 ^ 70 by decide, show (1 + n).natAbs < 2 ^ 70 by omega, show (1 : Int).natAbs < 2 ^ 70 by decide, show (0 - 1 : Int).natAbs < 2 ^ 70 by decide⟩ (K2.free hpg np) upd_same ((G2.upd hpg).mono (by omega)) (K2.trans (Keep.of (Same.upd np)))

def g_Crossing_oo {α : Type} : List α → List α
  | [k0, k1] => [k1, k0]
  | _ => []

def g_RootPath_pc {α : Type} : List α → List α
  | [k0, k1] => [k1, k0]
  | _ => []

theorem okLawRight {f : Addr} {fd : FuncData} (F : Fun K "_law_right" "_law_right" s_LawRight f fd) (T : Txt K mg) {fLawCutting : Addr} {fdLawCutting : FuncData} (D_LawCutting : DefAt P w K mg base 3 "_law_cutting" fLawCutting fdLawCutting ["_law_generator_here", "_law_most"] (spLawCut40)) {fCrossing : Addr} {fdCrossing : FuncData} (D_Crossing : DefAt P w K mg base 4 "crossing" fCrossing fdCrossing ["one", "other"] (spCross)) {fRootPath : Addr} {fdRootPath : FuncData} (D_RootPath : DefAt P w K mg base 5 "root_path" fRootPath fdRootPath ["cutting", "path"] (spRootPath)) {fLawPath : Addr} {fdLawPath : FuncData} (D_LawPath : DefAt P w K mg base 3 "_law_path" fLawPath fdLawPath ["_law_generator_here"] (spLawPath)) {fLawSum : Addr} {fdLawSum : FuncData} (D_LawSum : DefAt P w K mg base 1 "_law_sum" fLawSum fdLawSum ["_law_one", "_law_other", "_law_often"] (spLawSum)) {fLawRandom : Addr} {fdLawRandom : FuncData} (D_LawRandom : DefAt P w K mg base 2 "_law_random" fLawRandom fdLawRandom ["_law_generator_here", "_law_bound"] (spRandom)) {fLawRooted : Addr} {fdLawRooted : FuncData} (D_LawRooted : DefAt P w K mg base 1 "_law_rooted" fLawRooted fdLawRooted ["_law_cutting_here", "_law_path_here"] (spLawRooted)) {fLawCrossing : Addr} {fdLawCrossing : FuncData} (D_LawCrossing : DefAt P w K mg base 1 "_law_crossing" fLawCrossing fdLawCrossing ["_law_one", "_law_other"] (spLawCross)) (kb_Crossing_oo : KB0 K fdCrossing ["one", "other"] ["other", "one"] g_Crossing_oo g_Crossing_oo) (kb_RootPath_pc : KB0 K fdRootPath ["cutting", "path"] ["path", "cutting"] g_RootPath_pc g_RootPath_pc) : FnG P w K mg base 6 f fd ["_law_generator_here"] (spRight K) := by
  refine fnG_mk F scLawRight (fun vs H Q E h => ?_) (fun cdv A outer s H vs Q E gd hr h => ?_)
  · obtain ⟨g, rfl, _⟩ := h
    rfl
  · obtain ⟨g, rfl, hG, kk⟩ := h
    refine ⟨_, (pss_cons (ps_set (i := 1) scLawRight.nd rfl (Or.inl rfl) (pe_d D_LawCutting hr (pa_cons (pv 0) (pa_cons (pe_ix ixL (pe_lst (pa_cons pe_int (pa_cons (pe_op op_powX pe_int pe_int) pa_nil))) (pe_d D_LawRandom hr (pa_cons (pv 0) (pa_cons pe_int pa_nil))) (fun _ _ => rfl)) pa_nil))))
        (pss_cons (ps_asg (pe_lc (own := [("_law_turn", 13)]) (g := gName 13) (tt := tYes) rfl scLawRight.nd (pi_range1 rfl T.range (pa_cons pe_int pa_nil)) (blkOk_by (N := N_LawRight) (sc := defScope s_LawRight) (by decide +kernel)) (fun _ _ _ _ _ => pg_name (i := 13) scLawRight.nd rfl (Or.inl rfl)) (fun _ _ _ _ _ => pts_nil) (fun _ _ _ _ _ => (pe_d D_LawPath hr (pa_cons (pv 0) pa_nil)))) (pg_lstT 3 rfl (pgs_cons (pg_name (i := 2) scLawRight.nd rfl (Or.inl rfl)) (pgs_cons (pg_name (i := 3) scLawRight.nd rfl (Or.inl rfl)) (pgs_cons (pg_name (i := 4) scLawRight.nd rfl (Or.inl rfl)) pgs_nil)))))
        (pss_cons (ps_par (i := 5) (j := 6) rfl scLawRight.nd rfl rfl (by decide) rfl rfl (pa_cons (pe_callB (cr_reprR gd hr.units) (by rfl) T.repr (by decide +kernel) (pa_cons (pe_lst (pa_cons (pv 2) (pa_cons (pv 3) (pa_cons (pv 1) pa_nil)))) pa_nil)) (pa_cons (pe_op op_sub (pe_d D_LawRandom hr (pa_cons (pv 0) (pa_cons pe_int pa_nil))) pe_int) pa_nil)) rfl)
        (pss_cons (ps_set (i := 7) scLawRight.nd rfl (Or.inl rfl) (pe_d D_Crossing hr (pa_cons (pv 2) (pa_cons (pv 3) pa_nil))))
        (pss_cons (ps_if (PW.pt (pw_or (pt_cmpR op_ne (pe_callB (cr_reprR gd hr.units) (by rfl) T.repr (by decide +kernel) (pa_cons (pv 7) pa_nil)) (pe_callB (cr_reprR gd hr.units) (by rfl) T.repr (by decide +kernel) (pa_cons (pe_d D_LawCrossing hr (pa_cons (pv 2) (pa_cons (pv 3) pa_nil))) pa_nil)) (nomark _)) (pw_or (pt_cmpR op_ne (pe_dk D_Crossing hr kb_Crossing_oo (pk_cons (pv 3) (pk_cons (pv 2) pk_nil))) (pv 7) (nomark _)) (pw_or (pt_cmpR op_ne (pe_d D_Crossing hr (pa_cons (pv 3) (pa_cons (pv 2) pa_nil))) (pe_op op_sub pe_int (pv 7)) (nomark _)) (pw_or1 (pt_cmpR op_ne (pe_d D_Crossing hr (pa_cons (pv 2) (pa_cons (pv 2) pa_nil))) pe_int (nomark _))))))) (pss_one (ps_ret pe_bl)) pss_nil)
        (pss_cons (ps_if (pt_cmpR op_ne (pe_d D_Crossing hr (pa_cons (pe_d D_LawSum hr (pa_cons (pv 2) (pa_cons (pv 4) (pa_cons (pv 6) pa_nil)))) (pa_cons (pv 3) pa_nil))) (pe_op op_add (pv 7) (pe_op op_mulU (pv 6) (pe_d D_LawCrossing hr (pa_cons (pv 4) (pa_cons (pv 3) pa_nil))))) (nomark _)) (pss_one (ps_ret pe_bl)) pss_nil)
        (pss_cons (ps_set (i := 8) scLawRight.nd rfl (Or.inl rfl) (pe_d D_RootPath hr (pa_cons (pv 1) (pa_cons (pv 2) pa_nil))))
        (pss_cons (ps_if (PW.pt (pw_or (pt_cmpR op_ne (pe_callB (cr_reprR gd hr.units) (by rfl) T.repr (by decide +kernel) (pa_cons (pv 8) pa_nil)) (pe_callB (cr_reprR gd hr.units) (by rfl) T.repr (by decide +kernel) (pa_cons (pe_d D_LawRooted hr (pa_cons (pv 1) (pa_cons (pv 2) pa_nil))) pa_nil)) (nomark _)) (pw_or1 (pt_cmpR (op_neD hr.units) (pe_dk D_RootPath hr kb_RootPath_pc (pk_cons (pv 2) (pk_cons (pv 1) pk_nil))) (pv 8) (nomark _))))) (pss_one (ps_ret pe_bl)) pss_nil)
        (pss_cons (ps_if (pt_cmpR (op_neD hr.units) (pe_d D_RootPath hr (pa_cons (pv 1) (pa_cons (pe_d D_LawSum hr (pa_cons (pv 2) (pa_cons (pv 4) (pa_cons (pv 6) pa_nil)))) pa_nil))) (pe_d D_LawSum hr (pa_cons (pv 8) (pa_cons (pe_d D_LawRooted hr (pa_cons (pv 1) (pa_cons (pv 4) pa_nil))) (pa_cons (pv 6) pa_nil)))) (nomark _)) (pss_one (ps_ret pe_bl)) pss_nil)
        (pss_cons (ps_asg (pv 1) (pg_tupT 4 rfl (pgs_cons (pg_name (i := 9) scLawRight.nd rfl (Or.inl rfl)) (pgs_cons (pg_name (i := 10) scLawRight.nd rfl (Or.inr rfl)) (pgs_cons (pg_name (i := 11) scLawRight.nd rfl (Or.inr rfl)) (pgs_cons (pg_name (i := 12) scLawRight.nd rfl (Or.inr rfl)) pgs_nil))))))
        (pss_cons (ps_if (pt_cmpR (op_neD hr.units) (pe_d D_RootPath hr (pa_cons (pv 1) (pa_cons (pe_callTy call_list_of (by rfl) T.list (by decide +kernel) (pa_cons (pv 8) pa_nil)) pa_nil))) (pe_lc (own := [("_law_low", 14), ("_law_high", 15)]) (g := gT 2 (gCons (gName 14) (gCons (gName 15) gNil))) (tt := tYes) rfl scLawRight.nd (pi_zip (by rfl) T.zip (pa_cons (pv 8) (pa_cons (pv 2) pa_nil))) (blkOk_by (N := N_LawRight) (sc := defScope s_LawRight) (by decide +kernel)) (fun _ _ _ _ _ => pg_tupT 2 rfl (pgs_cons (pg_name (i := 14) scLawRight.nd rfl (Or.inl rfl)) (pgs_cons (pg_name (i := 15) scLawRight.nd rfl (Or.inl rfl)) pgs_nil))) (fun _ _ _ _ _ => pts_nil) (fun _ _ _ _ _ => (pe_op op_add (pe_op op_mulU (pv 12) (pv 14)) (pe_op op_mulU (pe_op op_mulU (pv 10) (pv 11)) (pv 15))))) (nomark _)) (pss_one (ps_ret pe_bl)) pss_nil)
        (pss_cons (ps_if (pt_cmpR op_ne (pe_d D_Crossing hr (pa_cons (pv 8) (pa_cons (pv 3) pa_nil))) (pe_d D_Crossing hr (pa_cons (pv 2) (pa_cons (pe_d D_RootPath hr (pa_cons (pv 1) (pa_cons (pv 3) pa_nil))) pa_nil))) (nomark _)) (pss_one (ps_ret pe_bl)) pss_nil)
        (pss_cons (ps_expr (pe_bm PySem.F.plainAttrs_list PySem.F.slot_list_append PySem.F.type_list_append mt_append (pv 8) (pa_cons pe_non pa_nil)))
        (pss_one (ps_ret (pe_and (pe_cmpR (op_eqD hr.units) (pe_d D_RootPath hr (pa_cons (pv 1) (pa_cons (pv 2) pa_nil))) (pe_d D_LawRooted hr (pa_cons (pv 1) (pa_cons (pv 2) pa_nil))) (nomark _)) (pe_one (pe_cmpR op_eq (pe_callB (cr_reprR gd hr.units) (by rfl) T.repr (by decide +kernel) (pa_cons (pe_lst (pa_cons (pv 2) (pa_cons (pv 3) (pa_cons (pv 1) pa_nil)))) pa_nil)) (pv 5) (nomark _))))))))))))))))))), ?_⟩
    have e0 : start N_LawRight [.ref g] = [some (.ref g), none, none, none, none, none, none, none, none, none, none, none, none, none, none, none] := rfl
    rw [e0]
    refine seq_gen fun C1 hC1 => ?_
    simp only [cxK, wipe, tYes, List.map_cons, List.map_nil, rIxL, rSum, tSl, rSlL, tNoPart, tPart, exists_and_left, and_assoc, V.ref.injEq, HO.lst.injEq, HO.tup.injEq, tFor_eq, iRng1, iRng2, iList, iTup, tLc_eq, tLst, tTup, gSub, rSetL, gT, gL, gTup, gCons, gNil, atI_0, atI_1, atI_2, atI_3, List.length_cons, List.length_nil, Nat.zero_add, Nat.reduceAdd, Nat.reduceLeDiff, ixN_30, ixN_31, ixN_32, Int.reduceLT, Int.reduceLE, Int.reduceNeg, upd_same, reduceCtorEq, false_and, exists_false, or_false, false_or, tNext, tIfS, tRet, tRetN, tDrop, tAsg, gName, tPar, tPar3, tAug, ipI, tVar, tC, tOp, tUn, tCB, tD, tDK, tCons, tNil, rI, rI0, rU, tB, tTest, tCallS, tErr, tAnd, tOr, tNot, tAndV, tOrV, tNotV, tIf, rEq, rNe, scal_ii, scal_bb, scal_ss, rGcd_eq, tBits, List.set_cons_zero, List.set_cons_succ, List.getElem?_cons_zero, List.getElem?_cons_succ, Option.some.injEq, exists_eq_left', V.int.injEq, V.bl.injEq, V.str.injEq, true_and, and_true, decide_eq_true_eq, List.cons.injEq, exists_eq_left, Bool.false_eq_true, if_false, if_true, ite_true, ite_false, Bool.not_eq_true', decide_eq_false_iff_not, Bool.not_not]
    refine ⟨cpow (by decide) (by decide) (by decide) (by decide), by decide, fun L nL => ?_⟩
    have hLg := hG.nn nL
    have GL := hG.same (Same.upd (o := .lst [V.int 30, V.int (10 ^ Int.toNat 12)]) nL)
    have KL : Keep g H (upd H L (.lst [V.int 30, V.int (10 ^ Int.toNat 12)])) := Keep.of (Same.upd nL)
    have eL : upd H L (.lst [V.int 30, V.int (10 ^ Int.toNat 12)]) L = some (.lst [V.int 30, V.int (10 ^ Int.toNat 12)]) := upd_same
    generalize upd H L (.lst [V.int 30, V.int (10 ^ Int.toNat 12)]) = H1 at *
    refine ⟨g, 2, _, rfl, GL, by omega, by decide, by decide, fun x H2 x0 x1 G2 K2 => ?_⟩
    obtain ⟨m, hm, m1, m2⟩ : ∃ m : Int, atI [V.int 30, V.int (10 ^ Int.toNat 12)] x = some (.int m) ∧ 1 ≤ m ∧ m ≤ 10 ^ 15 := by
      rcases (show x = 0 ∨ x = 1 by omega) with rfl | rfl
      · exact ⟨30, rfl, by decide, by decide⟩
      · exact ⟨_, rfl, by decide +kernel, by decide +kernel⟩
    refine ⟨_, x, rfl, K2 _ _ hLg eL, _, hm, ?_⟩
    refine ⟨g, m, _, rfl, G2, by omega, m1, m2, fun q pc H3 hok zq npc ec G3 K3 => ?_⟩
    have K03 : Keep g H H3 := (KL.trans K2).trans K3
    have hcg : pc ≠ g := G2.nn npc
    refine Eq.mpr (hC1 _ _) ?_
    refine seq_gen fun C2 hC2 => ?_
    simp only [cxK, wipe, tYes, List.map_cons, List.map_nil, rIxL, rSum, tSl, rSlL, tNoPart, tPart, exists_and_left, and_assoc, V.ref.injEq, HO.lst.injEq, HO.tup.injEq, tFor_eq, iRng1, iRng2, iList, iTup, tLc_eq, tLst, tTup, gSub, rSetL, gT, gL, gTup, gCons, gNil, atI_0, atI_1, atI_2, atI_3, List.length_cons, List.length_nil, Nat.zero_add, Nat.reduceAdd, Nat.reduceLeDiff, ixN_30, ixN_31, ixN_32, Int.reduceLT, Int.reduceLE, Int.reduceNeg, upd_same, reduceCtorEq, false_and, exists_false, or_false, false_or, tNext, tIfS, tRet, tRetN, tDrop, tAsg, gName, tPar, tPar3, tAug, ipI, tVar, tC, tOp, tUn, tCB, tD, tDK, tCons, tNil, rI, rI0, rU, tB, tTest, tCallS, tErr, tAnd, tOr, tNot, tAndV, tOrV, tNotV, tIf, rEq, rNe, scal_ii, scal_bb, scal_ss, rGcd_eq, tBits, List.set_cons_zero, List.set_cons_succ, List.getElem?_cons_zero, List.getElem?_cons_succ, Option.some.injEq, exists_eq_left', V.int.injEq, V.bl.injEq, V.str.injEq, true_and, and_true, decide_eq_true_eq, List.cons.injEq, exists_eq_left, Bool.false_eq_true, if_false, if_true, ite_true, ite_false, Bool.not_eq_true', decide_eq_false_iff_not, Bool.not_not]
    refine ⟨by decide, by decide, fun Dd nD => ?_⟩
    refine lcW_range (InvPs g Dd 107020 H3) ⟨[], upd_same, rfl, fun n hn => absurd hn List.not_mem_nil, (G3.upd (G3.nn nD)).mono (by omega), (Keep.refl g H3).upd nD, G3.nn nD⟩ (fun i H4 hi z => ?_) (fun H4 z => ?_)
    · refine ⟨rfl, ?_⟩
      simp only [cxK, wipe, tYes, List.map_cons, List.map_nil, rIxL, rSum, tSl, rSlL, tNoPart, tPart, exists_and_left, and_assoc, V.ref.injEq, HO.lst.injEq, HO.tup.injEq, tFor_eq, iRng1, iRng2, iList, iTup, tLc_eq, tLst, tTup, gSub, rSetL, gT, gL, gTup, gCons, gNil, atI_0, atI_1, atI_2, atI_3, List.length_cons, List.length_nil, Nat.zero_add, Nat.reduceAdd, Nat.reduceLeDiff, ixN_30, ixN_31, ixN_32, Int.reduceLT, Int.reduceLE, Int.reduceNeg, upd_same, reduceCtorEq, false_and, exists_false, or_false, false_or, tSeq, tNext, tIfS, tRet, tRetN, tDrop, tAsg, gName, tPar, tPar3, tAug, ipI, tVar, tC, tOp, tUn, tCB, tD, tDK, tCons, tNil, rI, rI0, rU, tB, tTest, tCallS, tErr, tAnd, tOr, tNot, tAndV, tOrV, tNotV, tIf, rEq, rNe, scal_ii, scal_bb, scal_ss, rGcd_eq, tBits, List.set_cons_zero, List.set_cons_succ, List.getElem?_cons_zero, List.getElem?_cons_succ, Option.some.injEq, exists_eq_left', V.int.injEq, V.bl.injEq, V.str.injEq, true_and, and_true, decide_eq_true_eq, List.cons.injEq, exists_eq_left, Bool.false_eq_true, if_false, if_true, ite_true, ite_false, Bool.not_eq_true', decide_eq_false_iff_not, Bool.not_not]
      have hi3 : i < 3 := hi
      obtain ⟨ps, eD, hl, hall, G4, K4, hDg⟩ := id z
      refine ⟨g, _, rfl, G4, by omega, fun t p H5 zt np hp G5 K5 => ?_⟩
      exact z.push nD (by omega) np hp zt G5 K5
    obtain ⟨ps, eD, hl, hall, G4, K4, hDg⟩ := z
    match ps, hl with
    | [p1, p2, p3], _ =>
    obtain ⟨-, n1, t1, e1, z1⟩ := hall p1 (by simp)
    obtain ⟨-, n2, t2, e2, z2⟩ := hall p2 (by simp)
    obtain ⟨-, n3, t3, e3, z3⟩ := hall p3 (by simp)
    clear hall
    have ec4 := K4 _ _ hcg ec
    refine ⟨Dd, rfl, _, eD, rfl, ?_⟩
    simp only [cxK, wipe, tYes, List.map_cons, List.map_nil, rIxL, rSum, tSl, rSlL, tNoPart, tPart, exists_and_left, and_assoc, V.ref.injEq, HO.lst.injEq, HO.tup.injEq, tFor_eq, iRng1, iRng2, iList, iTup, tLc_eq, tLst, tTup, gSub, rSetL, gT, gL, gTup, gCons, gNil, atI_0, atI_1, atI_2, atI_3, List.length_cons, List.length_nil, Nat.zero_add, Nat.reduceAdd, Nat.reduceLeDiff, ixN_30, ixN_31, ixN_32, Int.reduceLT, Int.reduceLE, Int.reduceNeg, upd_same, reduceCtorEq, false_and, exists_false, or_false, false_or, tNext, tIfS, tRet, tRetN, tDrop, tAsg, gName, tPar, tPar3, tAug, ipI, tVar, tC, tOp, tUn, tCB, tD, tDK, tCons, tNil, rI, rI0, rU, tB, tTest, tCallS, tErr, tAnd, tOr, tNot, tAndV, tOrV, tNotV, tIf, rEq, rNe, scal_ii, scal_bb, scal_ss, rGcd_eq, tBits, List.set_cons_zero, List.set_cons_succ, List.getElem?_cons_zero, List.getElem?_cons_succ, Option.some.injEq, exists_eq_left', V.int.injEq, V.bl.injEq, V.str.injEq, true_and, and_true, decide_eq_true_eq, List.cons.injEq, exists_eq_left, Bool.false_eq_true, if_false, if_true, ite_true, ite_false, Bool.not_eq_true', decide_eq_false_iff_not, Bool.not_not]
    refine Eq.mpr (hC2 _ _) ?_
    refine seq_gen fun C3 hC3 => ?_
    simp only [cxK, wipe, tYes, List.map_cons, List.map_nil, rIxL, rSum, tSl, rSlL, tNoPart, tPart, exists_and_left, and_assoc, V.ref.injEq, HO.lst.injEq, HO.tup.injEq, tFor_eq, iRng1, iRng2, iList, iTup, tLc_eq, tLst, tTup, gSub, rSetL, gT, gL, gTup, gCons, gNil, atI_0, atI_1, atI_2, atI_3, List.length_cons, List.length_nil, Nat.zero_add, Nat.reduceAdd, Nat.reduceLeDiff, ixN_30, ixN_31, ixN_32, Int.reduceLT, Int.reduceLE, Int.reduceNeg, upd_same, reduceCtorEq, false_and, exists_false, or_false, false_or, tNext, tIfS, tRet, tRetN, tDrop, tAsg, gName, tPar, tPar3, tAug, ipI, tVar, tC, tOp, tUn, tCB, tD, tDK, tCons, tNil, rI, rI0, rU, tB, tTest, tCallS, tErr, tAnd, tOr, tNot, tAndV, tOrV, tNotV, tIf, rEq, rNe, scal_ii, scal_bb, scal_ss, rGcd_eq, tBits, List.set_cons_zero, List.set_cons_succ, List.getElem?_cons_zero, List.getElem?_cons_succ, Option.some.injEq, exists_eq_left', V.int.injEq, V.bl.injEq, V.str.injEq, true_and, and_true, decide_eq_true_eq, List.cons.injEq, exists_eq_left, Bool.false_eq_true, if_false, if_true, ite_true, ite_false, Bool.not_eq_true', decide_eq_false_iff_not, Bool.not_not]
    refine ⟨by decide, fun M nM => ?_⟩
    have hMg := G4.nn nM
    have s5 := Same.upd (o := .lst [V.ref p1, V.ref p2, V.ref pc]) nM
    have eM : upd H4 M (.lst [V.ref p1, V.ref p2, V.ref pc]) M = some (.lst [V.ref p1, V.ref p2, V.ref pc]) := upd_same
    generalize upd H4 M (.lst [V.ref p1, V.ref p2, V.ref pc]) = H5 at *
    have G5 := G4.same s5
    replace e1 := s5 _ _ e1
    replace e2 := s5 _ _ e2
    replace e3 := s5 _ _ e3
    replace ec4 := s5 _ _ ec4
    refine ⟨_, rp_ppc eM e1 e2 ec4 z1 z2 zq (by decide) (by decide) (by decide), ?_⟩
    refine ⟨g, 9, _, rfl, G5, by omega, by decide, by decide, fun o H6 o0 o1 G6 K6 => ⟨o, rfl, ?_⟩⟩
    have e1 := K6 _ _ n1 e1
    have e2 := K6 _ _ n2 e2
    have e3 := K6 _ _ n3 e3
    have ec := K6 _ _ hcg ec4
    have K06 : Keep g H H6 := ((K03.trans K4).trans (Keep.of s5)).trans K6
    have hCA : CutAt H6 pc q := ⟨ec, hok⟩
    have y1 := z1.up (show 80 ≤ 900 by decide)
    have y2 := z2.up (show 80 ≤ 900 by decide)
    have y3 := z3.up (show 80 ≤ 900 by decide)
    have yq := zq.up (show 70 ≤ 900 by decide)
    have ho : (o - 4).natAbs < 2 ^ 100 := by omega
    generalize o - 4 = w at *
    refine Eq.mpr (hC3 _ _) ?_
    refine seq_gen fun C4 hC4 => ?_
    simp only [cxK, wipe, tYes, List.map_cons, List.map_nil, rIxL, rSum, tSl, rSlL, tNoPart, tPart, exists_and_left, and_assoc, V.ref.injEq, HO.lst.injEq, HO.tup.injEq, tFor_eq, iRng1, iRng2, iList, iTup, tLc_eq, tLst, tTup, gSub, rSetL, gT, gL, gTup, gCons, gNil, atI_0, atI_1, atI_2, atI_3, List.length_cons, List.length_nil, Nat.zero_add, Nat.reduceAdd, Nat.reduceLeDiff, ixN_30, ixN_31, ixN_32, Int.reduceLT, Int.reduceLE, Int.reduceNeg, upd_same, reduceCtorEq, false_and, exists_false, or_false, false_or, tNext, tIfS, tRet, tRetN, tDrop, tAsg, gName, tPar, tPar3, tAug, ipI, tVar, tC, tOp, tUn, tCB, tD, tDK, tCons, tNil, rI, rI0, rU, tB, tTest, tCallS, tErr, tAnd, tOr, tNot, tAndV, tOrV, tNotV, tIf, rEq, rNe, scal_ii, scal_bb, scal_ss, rGcd_eq, tBits, List.set_cons_zero, List.set_cons_succ, List.getElem?_cons_zero, List.getElem?_cons_succ, Option.some.injEq, exists_eq_left', V.int.injEq, V.bl.injEq, V.str.injEq, true_and, and_true, decide_eq_true_eq, List.cons.injEq, exists_eq_left, Bool.false_eq_true, if_false, if_true, ite_true, ite_false, Bool.not_eq_true', decide_eq_false_iff_not, Bool.not_not]
    refine ⟨p1, p2, t1, t2, rfl, e1, e2, y1, y2, fun J1 j1 => ?_⟩
    refine Eq.mpr (hC4 _ _) ?_
    refine seq_gen fun C5 hC5 => ?_
    simp only [cxK, wipe, tYes, List.map_cons, List.map_nil, rIxL, rSum, tSl, rSlL, tNoPart, tPart, exists_and_left, and_assoc, V.ref.injEq, HO.lst.injEq, HO.tup.injEq, tFor_eq, iRng1, iRng2, iList, iTup, tLc_eq, tLst, tTup, gSub, rSetL, gT, gL, gTup, gCons, gNil, atI_0, atI_1, atI_2, atI_3, List.length_cons, List.length_nil, Nat.zero_add, Nat.reduceAdd, Nat.reduceLeDiff, ixN_30, ixN_31, ixN_32, Int.reduceLT, Int.reduceLE, Int.reduceNeg, upd_same, reduceCtorEq, false_and, exists_false, or_false, false_or, tNext, tIfS, tRet, tRetN, tDrop, tAsg, gName, tPar, tPar3, tAug, ipI, tVar, tC, tOp, tUn, tCB, tD, tDK, tCons, tNil, rI, rI0, rU, tB, tTest, tCallS, tErr, tAnd, tOr, tNot, tAndV, tOrV, tNotV, tIf, rEq, rNe, scal_ii, scal_bb, scal_ss, rGcd_eq, tBits, List.set_cons_zero, List.set_cons_succ, List.getElem?_cons_zero, List.getElem?_cons_succ, Option.some.injEq, exists_eq_left', V.int.injEq, V.bl.injEq, V.str.injEq, true_and, and_true, decide_eq_true_eq, List.cons.injEq, exists_eq_left, Bool.false_eq_true, if_false, if_true, ite_true, ite_false, Bool.not_eq_true', decide_eq_false_iff_not, Bool.not_not]
    have c12 := cross_sz z1 z2
    refine ⟨_, rp_wide c12 (by decide), ?_⟩
    refine ⟨p1, p2, t1, t2, rfl, j1 _ _ e1, j1 _ _ e2, y1, y2, _, rp_wide c12 (by decide), ?_⟩
    rw [if_neg (fun h => h rfl)]
    simp only [cxK, wipe, tYes, List.map_cons, List.map_nil, rIxL, rSum, tSl, rSlL, tNoPart, tPart, exists_and_left, and_assoc, V.ref.injEq, HO.lst.injEq, HO.tup.injEq, tFor_eq, iRng1, iRng2, iList, iTup, tLc_eq, tLst, tTup, gSub, rSetL, gT, gL, gTup, gCons, gNil, atI_0, atI_1, atI_2, atI_3, List.length_cons, List.length_nil, Nat.zero_add, Nat.reduceAdd, Nat.reduceLeDiff, ixN_30, ixN_31, ixN_32, Int.reduceLT, Int.reduceLE, Int.reduceNeg, upd_same, reduceCtorEq, false_and, exists_false, or_false, false_or, tNext, tIfS, tRet, tRetN, tDrop, tAsg, gName, tPar, tPar3, tAug, ipI, tVar, tC, tOp, tUn, tCB, tD, tDK, tCons, tNil, rI, rI0, rU, tB, tTest, tCallS, tErr, tAnd, tOr, tNot, tAndV, tOrV, tNotV, tIf, rEq, rNe, scal_ii, scal_bb, scal_ss, rGcd_eq, tBits, List.set_cons_zero, List.set_cons_succ, List.getElem?_cons_zero, List.getElem?_cons_succ, Option.some.injEq, exists_eq_left', V.int.injEq, V.bl.injEq, V.str.injEq, true_and, and_true, decide_eq_true_eq, List.cons.injEq, exists_eq_left, Bool.false_eq_true, if_false, if_true, ite_true, ite_false, Bool.not_eq_true', decide_eq_false_iff_not, Bool.not_not, g_Crossing_oo]
    refine ⟨p1, p2, t1, t2, rfl, j1 _ _ e1, j1 _ _ e2, y1, y2, fun J2 j2 => ⟨by simp only [scal_ii], ?_⟩⟩
    rw [if_neg (fun h => h rfl)]
    have k2 := j1.trans j2
    refine ⟨p2, p1, t2, t1, rfl, k2 _ _ e2, k2 _ _ e1, y2, y1, fun J3 j3 => ⟨by simp only [scal_ii], ?_⟩⟩
    rw [if_neg (fun h => h (by rw [cross_swap]))]
    have k3 := k2.trans j3
    refine ⟨p1, p1, t1, t1, rfl, k3 _ _ e1, k3 _ _ e1, y1, y1, fun J4 j4 => ⟨by simp only [scal_ii], ?_⟩⟩
    rw [if_neg (fun h => h (by rw [cross_self]))]
    have k4 := k3.trans j4
    refine Eq.mpr (hC5 _ _) ?_
    refine seq_gen fun C6 hC6 => ?_
    simp only [cxK, wipe, tYes, List.map_cons, List.map_nil, rIxL, rSum, tSl, rSlL, tNoPart, tPart, exists_and_left, and_assoc, V.ref.injEq, HO.lst.injEq, HO.tup.injEq, tFor_eq, iRng1, iRng2, iList, iTup, tLc_eq, tLst, tTup, gSub, rSetL, gT, gL, gTup, gCons, gNil, atI_0, atI_1, atI_2, atI_3, List.length_cons, List.length_nil, Nat.zero_add, Nat.reduceAdd, Nat.reduceLeDiff, ixN_30, ixN_31, ixN_32, Int.reduceLT, Int.reduceLE, Int.reduceNeg, upd_same, reduceCtorEq, false_and, exists_false, or_false, false_or, tNext, tIfS, tRet, tRetN, tDrop, tAsg, gName, tPar, tPar3, tAug, ipI, tVar, tC, tOp, tUn, tCB, tD, tDK, tCons, tNil, rI, rI0, rU, tB, tTest, tCallS, tErr, tAnd, tOr, tNot, tAndV, tOrV, tNotV, tIf, rEq, rNe, scal_ii, scal_bb, scal_ss, rGcd_eq, tBits, List.set_cons_zero, List.set_cons_succ, List.getElem?_cons_zero, List.getElem?_cons_succ, Option.some.injEq, exists_eq_left', V.int.injEq, V.bl.injEq, V.str.injEq, true_and, and_true, decide_eq_true_eq, List.cons.injEq, exists_eq_left, Bool.false_eq_true, if_false, if_true, ite_true, ite_false, Bool.not_eq_true', decide_eq_false_iff_not, Bool.not_not]
    refine ⟨p1, p3, t1, t3, w, rfl, k4 _ _ e1, k4 _ _ e3, y3, ho, fun l1 J5 nl1 j5 f1 => ?_⟩
    have k5 := k4.trans j5
    have zs := sum_sz (x := w) z1 z3 ho (show 80 ≤ 80 + 100 by decide)
    refine ⟨l1, p2, _, t2, rfl, f1, k5 _ _ e2, zs.up (by decide), y2, fun J6 j6 => ?_⟩
    have k6 := k5.trans j6
    have c32 := cross_sz z3 z2
    refine ⟨p3, p2, t3, t2, rfl, k6 _ _ e3, k6 _ _ e2, y3, y2, _, rfl, okm ho c32 (by decide) (by decide), by simp only [scal_ii], ?_⟩
    rw [if_neg (fun h => h (by rw [cross_sum]))]
    refine Eq.mpr (hC6 _ _) ?_
    refine seq_gen fun C7 hC7 => ?_
    simp only [cxK, wipe, tYes, List.map_cons, List.map_nil, rIxL, rSum, tSl, rSlL, tNoPart, tPart, exists_and_left, and_assoc, V.ref.injEq, HO.lst.injEq, HO.tup.injEq, tFor_eq, iRng1, iRng2, iList, iTup, tLc_eq, tLst, tTup, gSub, rSetL, gT, gL, gTup, gCons, gNil, atI_0, atI_1, atI_2, atI_3, List.length_cons, List.length_nil, Nat.zero_add, Nat.reduceAdd, Nat.reduceLeDiff, ixN_30, ixN_31, ixN_32, Int.reduceLT, Int.reduceLE, Int.reduceNeg, upd_same, reduceCtorEq, false_and, exists_false, or_false, false_or, tNext, tIfS, tRet, tRetN, tDrop, tAsg, gName, tPar, tPar3, tAug, ipI, tVar, tC, tOp, tUn, tCB, tD, tDK, tCons, tNil, rI, rI0, rU, tB, tTest, tCallS, tErr, tAnd, tOr, tNot, tAndV, tOrV, tNotV, tIf, rEq, rNe, scal_ii, scal_bb, scal_ss, rGcd_eq, tBits, List.set_cons_zero, List.set_cons_succ, List.getElem?_cons_zero, List.getElem?_cons_succ, Option.some.injEq, exists_eq_left', V.int.injEq, V.bl.injEq, V.str.injEq, true_and, and_true, decide_eq_true_eq, List.cons.injEq, exists_eq_left, Bool.false_eq_true, if_false, if_true, ite_true, ite_false, Bool.not_eq_true', decide_eq_false_iff_not, Bool.not_not]
    refine ⟨pc, p1, q, t1, rfl, hCA.same k6, k6 _ _ e1, yq, y1, fun r1 J7 nr1 j7 f2 => ?_⟩
    have k7 := k6.trans j7
    have zr1 := root_sz zq z1
    refine Eq.mpr (hC7 _ _) ?_
    refine seq_gen fun C8 hC8 => ?_
    simp only [cxK, wipe, tYes, List.map_cons, List.map_nil, rIxL, rSum, tSl, rSlL, tNoPart, tPart, exists_and_left, and_assoc, V.ref.injEq, HO.lst.injEq, HO.tup.injEq, tFor_eq, iRng1, iRng2, iList, iTup, tLc_eq, tLst, tTup, gSub, rSetL, gT, gL, gTup, gCons, gNil, atI_0, atI_1, atI_2, atI_3, List.length_cons, List.length_nil, Nat.zero_add, Nat.reduceAdd, Nat.reduceLeDiff, ixN_30, ixN_31, ixN_32, Int.reduceLT, Int.reduceLE, Int.reduceNeg, upd_same, reduceCtorEq, false_and, exists_false, or_false, false_or, tNext, tIfS, tRet, tRetN, tDrop, tAsg, gName, tPar, tPar3, tAug, ipI, tVar, tC, tOp, tUn, tCB, tD, tDK, tCons, tNil, rI, rI0, rU, tB, tTest, tCallS, tErr, tAnd, tOr, tNot, tAndV, tOrV, tNotV, tIf, rEq, rNe, scal_ii, scal_bb, scal_ss, rGcd_eq, tBits, List.set_cons_zero, List.set_cons_succ, List.getElem?_cons_zero, List.getElem?_cons_succ, Option.some.injEq, exists_eq_left', V.int.injEq, V.bl.injEq, V.str.injEq, true_and, and_true, decide_eq_true_eq, List.cons.injEq, exists_eq_left, Bool.false_eq_true, if_false, if_true, ite_true, ite_false, Bool.not_eq_true', decide_eq_false_iff_not, Bool.not_not]
    refine ⟨_, rp_path f2 zr1 (by decide), ?_⟩
    refine ⟨pc, p1, q, t1, rfl, k7 _ _ ec, k7 _ _ e1, yq, y1, fun r2 J8 nr2 j8 f3 => ?_⟩
    refine ⟨_, rp_path f3 zr1 (by decide), ?_⟩
    rw [if_neg (fun h => h rfl)]
    simp only [cxK, wipe, tYes, List.map_cons, List.map_nil, rIxL, rSum, tSl, rSlL, tNoPart, tPart, exists_and_left, and_assoc, V.ref.injEq, HO.lst.injEq, HO.tup.injEq, tFor_eq, iRng1, iRng2, iList, iTup, tLc_eq, tLst, tTup, gSub, rSetL, gT, gL, gTup, gCons, gNil, atI_0, atI_1, atI_2, atI_3, List.length_cons, List.length_nil, Nat.zero_add, Nat.reduceAdd, Nat.reduceLeDiff, ixN_30, ixN_31, ixN_32, Int.reduceLT, Int.reduceLE, Int.reduceNeg, upd_same, reduceCtorEq, false_and, exists_false, or_false, false_or, tNext, tIfS, tRet, tRetN, tDrop, tAsg, gName, tPar, tPar3, tAug, ipI, tVar, tC, tOp, tUn, tCB, tD, tDK, tCons, tNil, rI, rI0, rU, tB, tTest, tCallS, tErr, tAnd, tOr, tNot, tAndV, tOrV, tNotV, tIf, rEq, rNe, scal_ii, scal_bb, scal_ss, rGcd_eq, tBits, List.set_cons_zero, List.set_cons_succ, List.getElem?_cons_zero, List.getElem?_cons_succ, Option.some.injEq, exists_eq_left', V.int.injEq, V.bl.injEq, V.str.injEq, true_and, and_true, decide_eq_true_eq, List.cons.injEq, exists_eq_left, Bool.false_eq_true, if_false, if_true, ite_true, ite_false, Bool.not_eq_true', decide_eq_false_iff_not, Bool.not_not, g_RootPath_pc]
    have k8 := k7.trans j8
    replace f2 := j8 _ _ f2
    refine ⟨pc, p1, q, t1, rfl, hCA.same k8, k8 _ _ e1, yq, y1, fun r3 J9 nr3 j9 f4 => ?_⟩
    have k9 := k8.trans j9
    replace f2 := j9 _ _ f2
    refine ne_path f4 f2 rfl ⟨false, rfl, ?_⟩
    rw [if_neg (by decide)]
    refine Eq.mpr (hC8 _ _) ?_
    refine seq_gen fun C9 hC9 => ?_
    simp only [cxK, wipe, tYes, List.map_cons, List.map_nil, rIxL, rSum, tSl, rSlL, tNoPart, tPart, exists_and_left, and_assoc, V.ref.injEq, HO.lst.injEq, HO.tup.injEq, tFor_eq, iRng1, iRng2, iList, iTup, tLc_eq, tLst, tTup, gSub, rSetL, gT, gL, gTup, gCons, gNil, atI_0, atI_1, atI_2, atI_3, List.length_cons, List.length_nil, Nat.zero_add, Nat.reduceAdd, Nat.reduceLeDiff, ixN_30, ixN_31, ixN_32, Int.reduceLT, Int.reduceLE, Int.reduceNeg, upd_same, reduceCtorEq, false_and, exists_false, or_false, false_or, tNext, tIfS, tRet, tRetN, tDrop, tAsg, gName, tPar, tPar3, tAug, ipI, tVar, tC, tOp, tUn, tCB, tD, tDK, tCons, tNil, rI, rI0, rU, tB, tTest, tCallS, tErr, tAnd, tOr, tNot, tAndV, tOrV, tNotV, tIf, rEq, rNe, scal_ii, scal_bb, scal_ss, rGcd_eq, tBits, List.set_cons_zero, List.set_cons_succ, List.getElem?_cons_zero, List.getElem?_cons_succ, Option.some.injEq, exists_eq_left', V.int.injEq, V.bl.injEq, V.str.injEq, true_and, and_true, decide_eq_true_eq, List.cons.injEq, exists_eq_left, Bool.false_eq_true, if_false, if_true, ite_true, ite_false, Bool.not_eq_true', decide_eq_false_iff_not, Bool.not_not]
    refine ⟨p1, p3, t1, t3, w, rfl, k9 _ _ e1, k9 _ _ e3, y3, ho, fun l2 Ja nl2 ja f5 => ?_⟩
    have ka := k9.trans ja
    refine ⟨pc, l2, q, _, rfl, hCA.same ka, f5, yq, zs.up (by decide), fun r4 Jb nr4 jb f6 => ?_⟩
    have kb := ka.trans jb
    refine ⟨pc, p3, q, t3, rfl, kb _ _ ec, kb _ _ e3, yq, y3, fun r5 Jc nr5 jc f7 => ?_⟩
    have kc := kb.trans jc
    replace f2 := jc _ _ (jb _ _ (ja _ _ f2))
    have zr3 := root_sz zq z3
    refine ⟨r1, r5, _, _, w, rfl, f2, f7, zr3.up (by decide), ho, fun l3 Jd nl3 jd f8 => ?_⟩
    have kd := kc.trans jd
    replace f2 := jd _ _ f2
    refine ne_path (jd _ _ (jc _ _ f6)) f8 (root_sum q t1 t3 w) ⟨false, rfl, ?_⟩
    rw [if_neg (by decide)]
    refine Eq.mpr (hC9 _ _) ?_
    refine seq_gen fun C10 hC10 => ?_
    have ecd : Jd pc = some (.tup [.int q.1, .int q.2.1, .int q.2.2.1, .int q.2.2.2]) := kd _ _ ec
    simp only [cxK, wipe, tYes, List.map_cons, List.map_nil, rIxL, rSum, tSl, rSlL, tNoPart, tPart, exists_and_left, and_assoc, V.ref.injEq, HO.lst.injEq, HO.tup.injEq, tFor_eq, iRng1, iRng2, iList, iTup, tLc_eq, tLst, tTup, gSub, rSetL, gT, gL, gTup, gCons, gNil, atI_0, atI_1, atI_2, atI_3, List.length_cons, List.length_nil, Nat.zero_add, Nat.reduceAdd, Nat.reduceLeDiff, ixN_30, ixN_31, ixN_32, Int.reduceLT, Int.reduceLE, Int.reduceNeg, upd_same, reduceCtorEq, false_and, exists_false, or_false, false_or, tNext, tIfS, tRet, tRetN, tDrop, tAsg, gName, tPar, tPar3, tAug, ipI, tVar, tC, tOp, tUn, tCB, tD, tDK, tCons, tNil, rI, rI0, rU, tB, tTest, tCallS, tErr, tAnd, tOr, tNot, tAndV, tOrV, tNotV, tIf, rEq, rNe, scal_ii, scal_bb, scal_ss, rGcd_eq, tBits, List.set_cons_zero, List.set_cons_succ, List.getElem?_cons_zero, List.getElem?_cons_succ, Option.some.injEq, exists_eq_left', V.int.injEq, V.bl.injEq, V.str.injEq, true_and, and_true, decide_eq_true_eq, List.cons.injEq, exists_eq_left, Bool.false_eq_true, if_false, if_true, ite_true, ite_false, Bool.not_eq_true', decide_eq_false_iff_not, Bool.not_not, ecd]
    refine Eq.mpr (hC10 _ _) ?_
    refine seq_gen fun C11 hC11 => ?_
    simp only [cxK, wipe, tYes, List.map_cons, List.map_nil, rIxL, rSum, tSl, rSlL, tNoPart, tPart, exists_and_left, and_assoc, V.ref.injEq, HO.lst.injEq, HO.tup.injEq, tFor_eq, iRng1, iRng2, iList, iTup, tLc_eq, tLst, tTup, gSub, rSetL, gT, gL, gTup, gCons, gNil, atI_0, atI_1, atI_2, atI_3, List.length_cons, List.length_nil, Nat.zero_add, Nat.reduceAdd, Nat.reduceLeDiff, ixN_30, ixN_31, ixN_32, Int.reduceLT, Int.reduceLE, Int.reduceNeg, upd_same, reduceCtorEq, false_and, exists_false, or_false, false_or, tNext, tIfS, tRet, tRetN, tDrop, tAsg, gName, tPar, tPar3, tAug, ipI, tVar, tC, tOp, tUn, tCB, tD, tDK, tCons, tNil, rI, rI0, rU, tB, tTest, tCallS, tErr, tAnd, tOr, tNot, tAndV, tOrV, tNotV, tIf, rEq, rNe, scal_ii, scal_bb, scal_ss, rGcd_eq, tBits, List.set_cons_zero, List.set_cons_succ, List.getElem?_cons_zero, List.getElem?_cons_succ, Option.some.injEq, exists_eq_left', V.int.injEq, V.bl.injEq, V.str.injEq, true_and, and_true, decide_eq_true_eq, List.cons.injEq, exists_eq_left, Bool.false_eq_true, if_false, if_true, ite_true, ite_false, Bool.not_eq_true', decide_eq_false_iff_not, Bool.not_not, iZip]
    refine ⟨_, .inl (SqL.of f2), fun l4 nl4 => ?_⟩
    have je := Same.upd (o := .lst (cutV4 (rootZ q t1))) nl4
    have f9 : upd Jd l4 (.lst (cutV4 (rootZ q t1))) l4 = some (.lst (cutV4 (rootZ q t1))) := upd_same
    generalize upd Jd l4 (.lst (cutV4 (rootZ q t1))) = Je at *
    have ke := kd.trans je
    replace f2 := je _ _ f2
    refine ⟨pc, l4, q, _, rfl, hCA.same ke, f9, yq, zr1.up (by decide), fun r6 Jf nr6 jf f10 => ?_⟩
    have kf := ke.trans jf
    replace f2 := jf _ _ f2
    have e1f := kf _ _ e1
    refine ⟨_, SqL.of f2, _, SqL.of e1f, fun De nE => ?_⟩
    obtain ⟨w1, w2, w3, w4⟩ := zq
    refine lcW_zip (xs := cutV4 (rootZ q t1)) (ys := cutV4 t1) rfl (InvTk Jf De (cutV4 (twiceZ q (rootZ q t1) t1))) ⟨Same.upd nE, upd_same⟩ (fun i H2 z => ⟨SqL.of (z.1 _ _ f2), SqL.of (z.1 _ _ e1f)⟩) ?_ ?_
    · rintro i x y T' H2 hx hy z nT
      have hi : i < 4 := (List.getElem?_eq_some_iff.mp hx).1
      obtain ⟨a, b, rfl, rfl, ha, hb, hs⟩ : ∃ a b : Int, x = .int a ∧ y = .int b ∧ a.natAbs < 2 ^ 900 ∧ b.natAbs < 2 ^ 900 ∧ (cutV4 (twiceZ q (rootZ q t1) t1))[i]? = some (.int (q.2.2.2 * a + q.2.1 * q.2.2.1 * b)) := by
        obtain ⟨v1, v2, v3, v4⟩ := zr1.up (show 70 + 80 + 2 ≤ 900 by decide)
        obtain ⟨u1, u2, u3, u4⟩ := y1
        rcases (show i = 0 ∨ i = 1 ∨ i = 2 ∨ i = 3 by omega) with rfl | rfl | rfl | rfl
        · exact ⟨_, _, (Option.some.inj hx).symm, (Option.some.inj hy).symm, v1, u1, rfl⟩
        · exact ⟨_, _, (Option.some.inj hx).symm, (Option.some.inj hy).symm, v2, u2, rfl⟩
        · exact ⟨_, _, (Option.some.inj hx).symm, (Option.some.inj hy).symm, v3, u3, rfl⟩
        · exact ⟨_, _, (Option.some.inj hx).symm, (Option.some.inj hy).symm, v4, u4, rfl⟩
      simp only [cxK, wipe, tYes, List.map_cons, List.map_nil, rIxL, rSum, tSl, rSlL, tNoPart, tPart, exists_and_left, and_assoc, V.ref.injEq, HO.lst.injEq, HO.tup.injEq, tFor_eq, iRng1, iRng2, iList, iTup, tLc_eq, tLst, tTup, gSub, rSetL, gT, gL, gTup, gCons, gNil, atI_0, atI_1, atI_2, atI_3, List.length_cons, List.length_nil, Nat.zero_add, Nat.reduceAdd, Nat.reduceLeDiff, ixN_30, ixN_31, ixN_32, Int.reduceLT, Int.reduceLE, Int.reduceNeg, upd_same, reduceCtorEq, false_and, exists_false, or_false, false_or, tSeq, tNext, tIfS, tRet, tRetN, tDrop, tAsg, gName, tPar, tPar3, tAug, ipI, tVar, tC, tOp, tUn, tCB, tD, tDK, tCons, tNil, rI, rI0, rU, tB, tTest, tCallS, tErr, tAnd, tOr, tNot, tAndV, tOrV, tNotV, tIf, rEq, rNe, scal_ii, scal_bb, scal_ss, rGcd_eq, tBits, List.set_cons_zero, List.set_cons_succ, List.getElem?_cons_zero, List.getElem?_cons_succ, Option.some.injEq, exists_eq_left', V.int.injEq, V.bl.injEq, V.str.injEq, true_and, and_true, decide_eq_true_eq, List.cons.injEq, exists_eq_left, Bool.false_eq_true, if_false, if_true, ite_true, ite_false, Bool.not_eq_true', decide_eq_false_iff_not, Bool.not_not]
      exact ⟨okm w4 ha (by decide) (by decide), okm w2 w3 (by decide) (by decide), okm (wide_lt w2 w3) hb (by decide) (by decide), z.push nE (Same.upd nT) hs (show 4 ≤ 1000 by decide)⟩
    rintro Jg ⟨jg, f11⟩
    have kg := kf.trans jg
    refine ne_path (jg _ _ f10) f11 (root_twice q t1) ⟨false, rfl, ?_⟩
    rw [if_neg (by decide)]
    replace f2 := jg _ _ f2
    refine Eq.mpr (hC11 _ _) ?_
    refine seq_gen fun C12 hC12 => ?_
    simp only [cxK, wipe, tYes, List.map_cons, List.map_nil, rIxL, rSum, tSl, rSlL, tNoPart, tPart, exists_and_left, and_assoc, V.ref.injEq, HO.lst.injEq, HO.tup.injEq, tFor_eq, iRng1, iRng2, iList, iTup, tLc_eq, tLst, tTup, gSub, rSetL, gT, gL, gTup, gCons, gNil, atI_0, atI_1, atI_2, atI_3, List.length_cons, List.length_nil, Nat.zero_add, Nat.reduceAdd, Nat.reduceLeDiff, ixN_30, ixN_31, ixN_32, Int.reduceLT, Int.reduceLE, Int.reduceNeg, upd_same, reduceCtorEq, false_and, exists_false, or_false, false_or, tNext, tIfS, tRet, tRetN, tDrop, tAsg, gName, tPar, tPar3, tAug, ipI, tVar, tC, tOp, tUn, tCB, tD, tDK, tCons, tNil, rI, rI0, rU, tB, tTest, tCallS, tErr, tAnd, tOr, tNot, tAndV, tOrV, tNotV, tIf, rEq, rNe, scal_ii, scal_bb, scal_ss, rGcd_eq, tBits, List.set_cons_zero, List.set_cons_succ, List.getElem?_cons_zero, List.getElem?_cons_succ, Option.some.injEq, exists_eq_left', V.int.injEq, V.bl.injEq, V.str.injEq, true_and, and_true, decide_eq_true_eq, List.cons.injEq, exists_eq_left, Bool.false_eq_true, if_false, if_true, ite_true, ite_false, Bool.not_eq_true', decide_eq_false_iff_not, Bool.not_not]
    refine ⟨r1, p2, _, t2, rfl, f2, kg _ _ e2, zr1.up (by decide), y2, fun Jh jh => ?_⟩
    have kh := kg.trans jh
    have zr2 := root_sz ⟨w1, w2, w3, w4⟩ z2
    refine ⟨pc, p2, q, t2, rfl, hCA.same kh, kh _ _ e2, yq, y2, fun r7 Ji nr7 ji f12 => ?_⟩
    have ki := kh.trans ji
    refine ⟨p1, r7, t1, _, rfl, ki _ _ e1, f12, y1, zr2.up (by decide), fun Jj jj => ⟨by simp only [scal_ii], ?_⟩⟩
    rw [if_neg (fun h => h (by rw [root_cross]))]
    have kj := ki.trans jj
    replace f2 := jj _ _ (ji _ _ (jh _ _ f2))
    refine Eq.mpr (hC12 _ _) ?_
    refine seq_gen fun C13 hC13 => ?_
    simp only [cxK, wipe, tYes, List.map_cons, List.map_nil, rIxL, rSum, tSl, rSlL, tNoPart, tPart, exists_and_left, and_assoc, V.ref.injEq, HO.lst.injEq, HO.tup.injEq, tFor_eq, iRng1, iRng2, iList, iTup, tLc_eq, tLst, tTup, gSub, rSetL, gT, gL, gTup, gCons, gNil, atI_0, atI_1, atI_2, atI_3, List.length_cons, List.length_nil, Nat.zero_add, Nat.reduceAdd, Nat.reduceLeDiff, ixN_30, ixN_31, ixN_32, Int.reduceLT, Int.reduceLE, Int.reduceNeg, upd_same, reduceCtorEq, false_and, exists_false, or_false, false_or, tNext, tIfS, tRet, tRetN, tDrop, tAsg, gName, tPar, tPar3, tAug, ipI, tVar, tC, tOp, tUn, tCB, tD, tDK, tCons, tNil, rI, rI0, rU, tB, tTest, tCallS, tErr, tAnd, tOr, tNot, tAndV, tOrV, tNotV, tIf, rEq, rNe, scal_ii, scal_bb, scal_ss, rGcd_eq, tBits, List.set_cons_zero, List.set_cons_succ, List.getElem?_cons_zero, List.getElem?_cons_succ, Option.some.injEq, exists_eq_left', V.int.injEq, V.bl.injEq, V.str.injEq, true_and, and_true, decide_eq_true_eq, List.cons.injEq, exists_eq_left, Bool.false_eq_true, if_false, if_true, ite_true, ite_false, Bool.not_eq_true', decide_eq_false_iff_not, Bool.not_not, tBM]
    refine ⟨.inl ⟨rfl, _, SqL.of f2⟩, r1, _, _, rfl, rfl, f2, show 4 < sizeLine by decide, ?_⟩
    have d1 : p1 ≠ r1 := ne_of_none (k6 _ _ e1) nr1
    have d2 : p2 ≠ r1 := ne_of_none (k6 _ _ e2) nr1
    have dc : pc ≠ r1 := ne_of_none (k6 _ _ ec) nr1
    obtain ⟨Jk, hJk⟩ : ∃ Jk, Jk = upd Jj r1 (.lst (cutV4 (rootZ q t1) ++ [V.non])) := ⟨_, rfl⟩
    rw [← hJk]
    have g1 : Jk p1 = some (.lst (cutV4 t1)) := by rw [hJk, upd_ne d1]; exact kj _ _ e1
    have g2 : Jk p2 = some (.lst (cutV4 t2)) := by rw [hJk, upd_ne d2]; exact kj _ _ e2
    have gc : CutAt Jk pc q := ⟨by rw [hJk, upd_ne dc]; exact kj _ _ ec, hok⟩
    have KK : Keep g H Jk := fun b u hb e => by
      rw [hJk, upd_ne (fun z => ?_)]
      · exact kj _ _ (K06 _ _ hb e)
      · rw [z] at e hb
        have := k6 _ _ (K06 _ _ hb e)
        rw [nr1] at this
        cases this
    clear hJk
    refine Eq.mpr (hC13 _ _) ?_
    simp only [cxK, wipe, tYes, List.map_cons, List.map_nil, rIxL, rSum, tSl, rSlL, tNoPart, tPart, exists_and_left, and_assoc, V.ref.injEq, HO.lst.injEq, HO.tup.injEq, tFor_eq, iRng1, iRng2, iList, iTup, tLc_eq, tLst, tTup, gSub, rSetL, gT, gL, gTup, gCons, gNil, atI_0, atI_1, atI_2, atI_3, List.length_cons, List.length_nil, Nat.zero_add, Nat.reduceAdd, Nat.reduceLeDiff, ixN_30, ixN_31, ixN_32, Int.reduceLT, Int.reduceLE, Int.reduceNeg, upd_same, reduceCtorEq, false_and, exists_false, or_false, false_or, tNext, tIfS, tRet, tRetN, tDrop, tAsg, gName, tPar, tPar3, tAug, ipI, tVar, tC, tOp, tUn, tCB, tD, tDK, tCons, tNil, rI, rI0, rU, tB, tTest, tCallS, tErr, tAnd, tOr, tNot, tAndV, tOrV, tNotV, tIf, rEq, rNe, scal_ii, scal_bb, scal_ss, rGcd_eq, tBits, List.set_cons_zero, List.set_cons_succ, List.getElem?_cons_zero, List.getElem?_cons_succ, Option.some.injEq, exists_eq_left', V.int.injEq, V.bl.injEq, V.str.injEq, true_and, and_true, decide_eq_true_eq, List.cons.injEq, exists_eq_left, Bool.false_eq_true, if_false, if_true, ite_true, ite_false, Bool.not_eq_true', decide_eq_false_iff_not, Bool.not_not]
    refine ⟨pc, p1, q, t1, rfl, gc, g1, yq, y1, fun r8 Jl nr8 jl f13 => ?_⟩
    refine ⟨pc, p1, q, t1, rfl, jl _ _ gc.at', jl _ _ g1, yq, y1, fun r9 Jm nr9 jm f14 => ?_⟩
    have km := jl.trans jm
    refine eq_path (jm _ _ f13) f14 rfl ⟨true, rfl, ?_⟩
    rw [if_pos rfl]
    refine ⟨by decide, fun M2 nM2 => ?_⟩
    have jn := Same.upd (o := .lst [V.ref p1, V.ref p2, V.ref pc]) nM2
    refine ⟨_, rp_ppc upd_same (jn _ _ (km _ _ g1)) (jn _ _ (km _ _ g2)) (jn _ _ (km _ _ gc.at')) z1 z2 ⟨w1, w2, w3, w4⟩ (by decide) (by decide) (by decide), ?_⟩
    rw [decide_eq_true rfl]
    exact kk _ (KK.trans (Keep.of (km.trans jn)))

theorem okLaw {f : Addr} {fd : FuncData} (F : Fun K "law" "law" s_Law f fd) (T : Txt K mg) {fLawRight : Addr} {fdLawRight : FuncData} (D_LawRight : DefG P w K mg base 6 "_law_right" fLawRight fdLawRight ["_law_generator_here"] (spRight K)) {fCrossing : Addr} {fdCrossing : FuncData} (D_Crossing : DefAt P w K mg base 4 "crossing" fCrossing fdCrossing ["one", "other"] (spCross)) {fRootPath : Addr} {fdRootPath : FuncData} (D_RootPath : DefAt P w K mg base 5 "root_path" fRootPath fdRootPath ["cutting", "path"] (spRootPath)) {fLawGenerator : Addr} {fdLawGenerator : FuncData} (D_LawGenerator : DefAt P w K mg base 2 "_law_generator" fLawGenerator fdLawGenerator ["_law_script", "_law_index"] (spGen K)) : FnG P w K mg base 7 f fd ["_law_script"] (spLaw K) := by
  refine fnG_mk F scLaw (fun vs H Q E h => ?_) (fun cdv A outer s H vs Q E gd hr h => ?_)
  · obtain ⟨a, ns, rfl, _⟩ := h
    rfl
  · obtain ⟨a, ns, rfl, hS, hl, kk⟩ := h
    refine ⟨_, (pss_cons (ps_for PassesOwn.never rfl (pi_range1 rfl T.range (pa_cons pe_int pa_nil)) (pg_name (i := 1) scLaw.nd rfl (Or.inl rfl)) (pss_one (ps_if (pt_not (pt_val (pe_g D_LawRight gd hr (pa_cons (pe_d D_LawGenerator hr (pa_cons (pv 0) (pa_cons (pv 1) pa_nil))) pa_nil)))) (pss_one (ps_ret pe_bl)) pss_nil)))
        (pss_cons (ps_if (pt_cmpR (op_neD hr.units) (pe_lst (pa_cons (pe_d D_Crossing hr (pa_cons (pe_lst (pa_cons pe_int (pa_cons pe_int (pa_cons pe_int (pa_cons pe_int pa_nil))))) (pa_cons (pe_lst (pa_cons pe_int (pa_cons pe_int (pa_cons pe_int (pa_cons pe_int pa_nil))))) pa_nil))) (pa_cons (pe_d D_Crossing hr (pa_cons (pe_lst (pa_cons pe_int (pa_cons pe_int (pa_cons pe_int (pa_cons pe_int pa_nil))))) (pa_cons (pe_lst (pa_cons pe_int (pa_cons pe_int (pa_cons pe_int (pa_cons pe_int pa_nil))))) pa_nil))) (pa_cons (pe_d D_Crossing hr (pa_cons (pe_lst (pa_cons pe_int (pa_cons pe_int (pa_cons pe_int (pa_cons pe_int pa_nil))))) (pa_cons (pe_lst (pa_cons pe_int (pa_cons pe_int (pa_cons pe_int (pa_cons pe_int pa_nil))))) pa_nil))) pa_nil)))) (pe_lst (pa_cons pe_int (pa_cons pe_int (pa_cons (pe_un un_neg pe_int) pa_nil)))) (nomark _)) (pss_one (ps_ret pe_bl)) pss_nil)
        (pss_one (ps_ret (pe_and (pe_cmpR (op_eqD hr.units) (pe_d D_RootPath hr (pa_cons (pe_tup (pa_cons pe_int (pa_cons pe_int (pa_cons pe_int (pa_cons (pe_un un_neg pe_int) pa_nil))))) (pa_cons (pe_lst (pa_cons pe_int (pa_cons pe_int (pa_cons pe_int (pa_cons pe_int pa_nil))))) pa_nil))) (pe_lst (pa_cons (pe_un un_neg pe_int) (pa_cons pe_int (pa_cons pe_int (pa_cons pe_int pa_nil))))) (nomark _)) (pe_one (pe_cmpR (op_eqD hr.units) (pe_d D_RootPath hr (pa_cons (pe_tup (pa_cons pe_int (pa_cons pe_int (pa_cons pe_int (pa_cons pe_int pa_nil))))) (pa_cons (pe_lst (pa_cons pe_int (pa_cons pe_int (pa_cons pe_int (pa_cons (pe_un un_neg pe_int) pa_nil))))) pa_nil))) (pe_lst (pa_cons pe_int (pa_cons (pe_un un_neg pe_int) (pa_cons pe_int (pa_cons pe_int pa_nil))))) (nomark _)))))))), ?_⟩
    have e0 : start N_Law [.ref a] = [some (.ref a), none] := rfl
    rw [e0]
    refine seq_gen fun C1 hC1 => ?_
    simp only [cxK, wipe, tYes, List.map_cons, List.map_nil, rIxL, rSum, tSl, rSlL, tNoPart, tPart, exists_and_left, and_assoc, V.ref.injEq, HO.lst.injEq, HO.tup.injEq, tFor_eq, iRng1, iRng2, iList, iTup, tLc_eq, tLst, tTup, gSub, rSetL, gT, gL, gTup, gCons, gNil, atI_0, atI_1, atI_2, atI_3, List.length_cons, List.length_nil, Nat.zero_add, Nat.reduceAdd, Nat.reduceLeDiff, ixN_30, ixN_31, ixN_32, Int.reduceLT, Int.reduceLE, Int.reduceNeg, upd_same, reduceCtorEq, false_and, exists_false, or_false, false_or, tNext, tIfS, tRet, tRetN, tDrop, tAsg, gName, tPar, tPar3, tAug, ipI, tVar, tC, tOp, tUn, tCB, tD, tDK, tCons, tNil, rI, rI0, rU, tB, tTest, tCallS, tErr, tAnd, tOr, tNot, tAndV, tOrV, tNotV, tIf, rEq, rNe, scal_ii, scal_bb, scal_ss, rGcd_eq, tBits, List.set_cons_zero, List.set_cons_succ, List.getElem?_cons_zero, List.getElem?_cons_succ, Option.some.injEq, exists_eq_left', V.int.injEq, V.bl.injEq, V.str.injEq, true_and, and_true, decide_eq_true_eq, List.cons.injEq, exists_eq_left, Bool.false_eq_true, if_false, if_true, ite_true, ite_false, Bool.not_eq_true', decide_eq_false_iff_not, Bool.not_not]
    refine ⟨by decide, by decide, ?_⟩
    refine forW_range (InvLaw40 a H) ⟨none, rfl, Same.refl _⟩ ?_ (fun σ' H2 z => ?_)
    · rintro i σ' H2 hi ⟨t1, rfl, s2⟩
      have hi2 : i < 2 := hi
      simp only [cxK, wipe, tYes, List.map_cons, List.map_nil, rIxL, rSum, tSl, rSlL, tNoPart, tPart, exists_and_left, and_assoc, V.ref.injEq, HO.lst.injEq, HO.tup.injEq, tFor_eq, iRng1, iRng2, iList, iTup, tLc_eq, tLst, tTup, gSub, rSetL, gT, gL, gTup, gCons, gNil, atI_0, atI_1, atI_2, atI_3, List.length_cons, List.length_nil, Nat.zero_add, Nat.reduceAdd, Nat.reduceLeDiff, ixN_30, ixN_31, ixN_32, Int.reduceLT, Int.reduceLE, Int.reduceNeg, upd_same, reduceCtorEq, false_and, exists_false, or_false, false_or, tSeq, tNext, tIfS, tRet, tRetN, tDrop, tAsg, gName, tPar, tPar3, tAug, ipI, tVar, tC, tOp, tUn, tCB, tD, tDK, tCons, tNil, rI, rI0, rU, tB, tTest, tCallS, tErr, tAnd, tOr, tNot, tAndV, tOrV, tNotV, tIf, rEq, rNe, scal_ii, scal_bb, scal_ss, rGcd_eq, tBits, List.set_cons_zero, List.set_cons_succ, List.getElem?_cons_zero, List.getElem?_cons_succ, Option.some.injEq, exists_eq_left', V.int.injEq, V.bl.injEq, V.str.injEq, true_and, and_true, decide_eq_true_eq, List.cons.injEq, exists_eq_left, Bool.false_eq_true, if_false, if_true, ite_true, ite_false, Bool.not_eq_true', decide_eq_false_iff_not, Bool.not_not]
      refine ⟨a, ns, 0 + (i : Int), rfl, SqL.ext hS s2, by omega, by omega, fun g H3 ng s3 G3 => ?_⟩
      refine ⟨g, rfl, G3, fun H4 K4 => ⟨true, rfl, ?_⟩⟩
      rw [if_neg (by decide)]
      exact ⟨_, rfl, s2.trans fun b o e => K4 b o (ne_of_none e ng) (s3 _ _ e)⟩
    · obtain ⟨t1, rfl, s2⟩ := z
      refine Eq.mpr (hC1 _ _) ?_
      refine seq_gen fun C2 hC2 => ?_
      simp only [cxK, wipe, tYes, List.map_cons, List.map_nil, rIxL, rSum, tSl, rSlL, tNoPart, tPart, exists_and_left, and_assoc, V.ref.injEq, HO.lst.injEq, HO.tup.injEq, tFor_eq, iRng1, iRng2, iList, iTup, tLc_eq, tLst, tTup, gSub, rSetL, gT, gL, gTup, gCons, gNil, atI_0, atI_1, atI_2, atI_3, List.length_cons, List.length_nil, Nat.zero_add, Nat.reduceAdd, Nat.reduceLeDiff, ixN_30, ixN_31, ixN_32, Int.reduceLT, Int.reduceLE, Int.reduceNeg, upd_same, reduceCtorEq, false_and, exists_false, or_false, false_or, tNext, tIfS, tRet, tRetN, tDrop, tAsg, gName, tPar, tPar3, tAug, ipI, tVar, tC, tOp, tUn, tCB, tD, tDK, tCons, tNil, rI, rI0, rU, tB, tTest, tCallS, tErr, tAnd, tOr, tNot, tAndV, tOrV, tNotV, tIf, rEq, rNe, scal_ii, scal_bb, scal_ss, rGcd_eq, tBits, List.set_cons_zero, List.set_cons_succ, List.getElem?_cons_zero, List.getElem?_cons_succ, Option.some.injEq, exists_eq_left', V.int.injEq, V.bl.injEq, V.str.injEq, true_and, and_true, decide_eq_true_eq, List.cons.injEq, exists_eq_left, Bool.false_eq_true, if_false, if_true, ite_true, ite_false, Bool.not_eq_true', decide_eq_false_iff_not, Bool.not_not]
      refine ⟨sml (by decide), fun a1 m1 => ⟨sml (by decide), fun b1 n1 => ⟨a1, b1, ((1, 0, 0, 0) : Q4), ((0, 1, 0, 0) : Q4), rfl, (Same.upd n1) _ _ upd_same, upd_same, ⟨by decide, by decide, by decide, by decide⟩, ⟨by decide, by decide, by decide, by decide⟩, fun J1 j1 => ?_⟩⟩⟩
      rw [show crossZ ((1, 0, 0, 0) : Q4) ((0, 1, 0, 0) : Q4) = 1 from rfl]
      refine ⟨sml (by decide), fun a2 m2 => ⟨sml (by decide), fun b2 n2 => ⟨a2, b2, ((0, 2, 1, 0) : Q4), ((1, 0, 0, 3) : Q4), rfl, (Same.upd n2) _ _ upd_same, upd_same, ⟨by decide, by decide, by decide, by decide⟩, ⟨by decide, by decide, by decide, by decide⟩, fun J2 j2 => ?_⟩⟩⟩
      rw [show crossZ ((0, 2, 1, 0) : Q4) ((1, 0, 0, 3) : Q4) = 1 from rfl]
      refine ⟨sml (by decide), fun a3 m3 => ⟨sml (by decide), fun b3 n3 => ⟨a3, b3, ((0, 0, 0, 1) : Q4), ((0, 0, 1, 0) : Q4), rfl, (Same.upd n3) _ _ upd_same, upd_same, ⟨by decide, by decide, by decide, by decide⟩, ⟨by decide, by decide, by decide, by decide⟩, fun J3 j3 => ?_⟩⟩⟩
      rw [show crossZ ((0, 0, 0, 1) : Q4) ((0, 0, 1, 0) : Q4) = -1 from rfl]
      refine ⟨sml (by decide), fun a4 m4 => ⟨sml (by decide), fun b4 n4 => ?_⟩⟩
      refine ne_ints [1, 1, -1] ((Same.upd n4) _ _ upd_same) upd_same (shaped_ints _) ⟨false, rfl, ?_⟩
      rw [if_neg (by decide)]
      refine Eq.mpr (hC2 _ _) ?_
      simp only [cxK, wipe, tYes, List.map_cons, List.map_nil, rIxL, rSum, tSl, rSlL, tNoPart, tPart, exists_and_left, and_assoc, V.ref.injEq, HO.lst.injEq, HO.tup.injEq, tFor_eq, iRng1, iRng2, iList, iTup, tLc_eq, tLst, tTup, gSub, rSetL, gT, gL, gTup, gCons, gNil, atI_0, atI_1, atI_2, atI_3, List.length_cons, List.length_nil, Nat.zero_add, Nat.reduceAdd, Nat.reduceLeDiff, ixN_30, ixN_31, ixN_32, Int.reduceLT, Int.reduceLE, Int.reduceNeg, upd_same, reduceCtorEq, false_and, exists_false, or_false, false_or, tSeq, tNext, tIfS, tRet, tRetN, tDrop, tAsg, gName, tPar, tPar3, tAug, ipI, tVar, tC, tOp, tUn, tCB, tD, tDK, tCons, tNil, rI, rI0, rU, tB, tTest, tCallS, tErr, tAnd, tOr, tNot, tAndV, tOrV, tNotV, tIf, rEq, rNe, scal_ii, scal_bb, scal_ss, rGcd_eq, tBits, List.set_cons_zero, List.set_cons_succ, List.getElem?_cons_zero, List.getElem?_cons_succ, Option.some.injEq, exists_eq_left', V.int.injEq, V.bl.injEq, V.str.injEq, true_and, and_true, decide_eq_true_eq, List.cons.injEq, exists_eq_left, Bool.false_eq_true, if_false, if_true, ite_true, ite_false, Bool.not_eq_true', decide_eq_false_iff_not, Bool.not_not]
      refine ⟨sml (by decide), fun a5 m5 => ⟨sml (by decide), fun b5 n5 => ⟨a5, b5, ((0, 1, 1, -1) : Q4), ((1, 0, 0, 0) : Q4), rfl, ⟨(Same.upd n5) _ _ upd_same, by decide +kernel⟩, upd_same, ⟨by decide, by decide, by decide, by decide⟩, ⟨by decide, by decide, by decide, by decide⟩, fun c5 J5 o5 j5 f5 => ⟨sml (by decide), fun d5 q5 => ?_⟩⟩⟩⟩
      refine eq_path (u := ((-1, 0, 1, 0) : Q4)) ((Same.upd q5) _ _ f5) upd_same (by decide +kernel) ⟨true, rfl, ?_⟩
      rw [if_pos rfl]
      refine ⟨sml (by decide), fun a6 m6 => ⟨sml (by decide), fun b6 n6 => ⟨a6, b6, ((0, 2, 1, 0) : Q4), ((1, 2, 0, -1) : Q4), rfl, ⟨(Same.upd n6) _ _ upd_same, by decide +kernel⟩, upd_same, ⟨by decide, by decide, by decide, by decide⟩, ⟨by decide, by decide, by decide, by decide⟩, fun c6 J6 o6 j6 f6 => ⟨sml (by decide), fun d6 q6 => ?_⟩⟩⟩⟩
      refine eq_path (u := ((0, -1, 1, 4) : Q4)) ((Same.upd q6) _ _ f6) upd_same (by decide +kernel) (kk _)

end
theorem all_mk {l : PySem.W.OpenLaw} {w : World} {K : PySem.W.Frag} {h : Heap} {mg : Str → Option Value} {fa : Addr} (X : K.In h) (G : h.Ns mainGlobals mg) (hfa : mg "law" = some (.ref fa))
    {od0 an0 : Option Addr} {sl0 : Array (Option Value)} {oc0 kV0 dc0 pm0 cd0 ct0 : Value} {f0 : Addr} (a0 : PySem.W.nsIn K mainGlobals "is_whole" = some (some (.ref f0))) (l0 : K.lookup f0 = some ⟨oc0, od0, .func (PySem.W.fnOf "is_whole" "is_whole" (defArgs s_IsWhole) (defBody s_IsWhole) (defScope s_IsWhole) .none kV0 dc0 pm0 an0 cd0 ct0), sl0⟩) (c0 : PySem.W.codeIn K cd0 "is_whole" = true) (k0 : PySem.W.keepIn K (.ref f0) = true)
    {od1 an1 : Option Addr} {sl1 : Array (Option Value)} {oc1 kV1 dc1 pm1 cd1 ct1 : Value} {f1 : Addr} (a1 : PySem.W.nsIn K mainGlobals "_are_without_divisor" = some (some (.ref f1))) (l1 : K.lookup f1 = some ⟨oc1, od1, .func (PySem.W.fnOf "_are_without_divisor" "_are_without_divisor" (defArgs s_AreWithoutDivisor) (defBody s_AreWithoutDivisor) (defScope s_AreWithoutDivisor) .none kV1 dc1 pm1 an1 cd1 ct1), sl1⟩) (c1 : PySem.W.codeIn K cd1 "_are_without_divisor" = true) (k1 : PySem.W.keepIn K (.ref f1) = true)
    {od2 an2 : Option Addr} {sl2 : Array (Option Value)} {oc2 kV2 dc2 pm2 cd2 ct2 : Value} {f2 : Addr} (a2 : PySem.W.nsIn K mainGlobals "_law_hash" = some (some (.ref f2))) (l2 : K.lookup f2 = some ⟨oc2, od2, .func (PySem.W.fnOf "_law_hash" "_law_hash" (defArgs s_LawHash) (defBody s_LawHash) (defScope s_LawHash) .none kV2 dc2 pm2 an2 cd2 ct2), sl2⟩) (c2 : PySem.W.codeIn K cd2 "_law_hash" = true) (k2 : PySem.W.keepIn K (.ref f2) = true)
    {od3 an3 : Option Addr} {sl3 : Array (Option Value)} {oc3 kV3 dc3 pm3 cd3 ct3 : Value} {f3 : Addr} (a3 : PySem.W.nsIn K mainGlobals "_law_cell" = some (some (.ref f3))) (l3 : K.lookup f3 = some ⟨oc3, od3, .func (PySem.W.fnOf "_law_cell" "_law_cell" (defArgs s_LawCell) (defBody s_LawCell) (defScope s_LawCell) .none kV3 dc3 pm3 an3 cd3 ct3), sl3⟩) (c3 : PySem.W.codeIn K cd3 "_law_cell" = true) (k3 : PySem.W.keepIn K (.ref f3) = true)
    {od4 an4 : Option Addr} {sl4 : Array (Option Value)} {oc4 kV4 dc4 pm4 cd4 ct4 : Value} {f4 : Addr} (a4 : PySem.W.nsIn K mainGlobals "_law_common" = some (some (.ref f4))) (l4 : K.lookup f4 = some ⟨oc4, od4, .func (PySem.W.fnOf "_law_common" "_law_common" (defArgs s_LawCommon) (defBody s_LawCommon) (defScope s_LawCommon) .none kV4 dc4 pm4 an4 cd4 ct4), sl4⟩) (c4 : PySem.W.codeIn K cd4 "_law_common" = true) (k4 : PySem.W.keepIn K (.ref f4) = true)
    {od5 an5 : Option Addr} {sl5 : Array (Option Value)} {oc5 kV5 dc5 pm5 cd5 ct5 : Value} {f5 : Addr} (a5 : PySem.W.nsIn K mainGlobals "_law_crossing" = some (some (.ref f5))) (l5 : K.lookup f5 = some ⟨oc5, od5, .func (PySem.W.fnOf "_law_crossing" "_law_crossing" (defArgs s_LawCrossing) (defBody s_LawCrossing) (defScope s_LawCrossing) .none kV5 dc5 pm5 an5 cd5 ct5), sl5⟩) (c5 : PySem.W.codeIn K cd5 "_law_crossing" = true) (k5 : PySem.W.keepIn K (.ref f5) = true)
    {od6 an6 : Option Addr} {sl6 : Array (Option Value)} {oc6 kV6 dc6 pm6 cd6 ct6 : Value} {f6 : Addr} (a6 : PySem.W.nsIn K mainGlobals "_law_rooted" = some (some (.ref f6))) (l6 : K.lookup f6 = some ⟨oc6, od6, .func (PySem.W.fnOf "_law_rooted" "_law_rooted" (defArgs s_LawRooted) (defBody s_LawRooted) (defScope s_LawRooted) .none kV6 dc6 pm6 an6 cd6 ct6), sl6⟩) (c6 : PySem.W.codeIn K cd6 "_law_rooted" = true) (k6 : PySem.W.keepIn K (.ref f6) = true)
    {od7 an7 : Option Addr} {sl7 : Array (Option Value)} {oc7 kV7 dc7 pm7 cd7 ct7 : Value} {f7 : Addr} (a7 : PySem.W.nsIn K mainGlobals "_law_sum" = some (some (.ref f7))) (l7 : K.lookup f7 = some ⟨oc7, od7, .func (PySem.W.fnOf "_law_sum" "_law_sum" (defArgs s_LawSum) (defBody s_LawSum) (defScope s_LawSum) .none kV7 dc7 pm7 an7 cd7 ct7), sl7⟩) (c7 : PySem.W.codeIn K cd7 "_law_sum" = true) (k7 : PySem.W.keepIn K (.ref f7) = true)
    {od8 an8 : Option Addr} {sl8 : Array (Option Value)} {oc8 kV8 dc8 pm8 cd8 ct8 : Value} {f8 : Addr} (a8 : PySem.W.nsIn K mainGlobals "are_wholes" = some (some (.ref f8))) (l8 : K.lookup f8 = some ⟨oc8, od8, .func (PySem.W.fnOf "are_wholes" "are_wholes" (defArgs s_AreWholes) (defBody s_AreWholes) (defScope s_AreWholes) .none kV8 dc8 pm8 an8 cd8 ct8), sl8⟩) (c8 : PySem.W.codeIn K cd8 "are_wholes" = true) (k8 : PySem.W.keepIn K (.ref f8) = true)
    {od9 an9 : Option Addr} {sl9 : Array (Option Value)} {oc9 kV9 dc9 pm9 cd9 ct9 : Value} {f9 : Addr} (a9 : PySem.W.nsIn K mainGlobals "is_path" = some (some (.ref f9))) (l9 : K.lookup f9 = some ⟨oc9, od9, .func (PySem.W.fnOf "is_path" "is_path" (defArgs s_IsPath) (defBody s_IsPath) (defScope s_IsPath) .none kV9 dc9 pm9 an9 cd9 ct9), sl9⟩) (c9 : PySem.W.codeIn K cd9 "is_path" = true) (k9 : PySem.W.keepIn K (.ref f9) = true)
    {od10 an10 : Option Addr} {sl10 : Array (Option Value)} {oc10 kV10 dc10 pm10 cd10 ct10 : Value} {f10 : Addr} (a10 : PySem.W.nsIn K mainGlobals "_law_random" = some (some (.ref f10))) (l10 : K.lookup f10 = some ⟨oc10, od10, .func (PySem.W.fnOf "_law_random" "_law_random" (defArgs s_LawRandom) (defBody s_LawRandom) (defScope s_LawRandom) .none kV10 dc10 pm10 an10 cd10 ct10), sl10⟩) (c10 : PySem.W.codeIn K cd10 "_law_random" = true) (k10 : PySem.W.keepIn K (.ref f10) = true)
    {od11 an11 : Option Addr} {sl11 : Array (Option Value)} {oc11 kV11 dc11 pm11 cd11 ct11 : Value} {f11 : Addr} (a11 : PySem.W.nsIn K mainGlobals "_law_generator" = some (some (.ref f11))) (l11 : K.lookup f11 = some ⟨oc11, od11, .func (PySem.W.fnOf "_law_generator" "_law_generator" (defArgs s_LawGenerator) (defBody s_LawGenerator) (defScope s_LawGenerator) .none kV11 dc11 pm11 an11 cd11 ct11), sl11⟩) (c11 : PySem.W.codeIn K cd11 "_law_generator" = true) (k11 : PySem.W.keepIn K (.ref f11) = true)
    {od12 an12 : Option Addr} {sl12 : Array (Option Value)} {oc12 kV12 dc12 pm12 cd12 ct12 : Value} {f12 : Addr} (a12 : PySem.W.nsIn K mainGlobals "_law_is_cutting" = some (some (.ref f12))) (l12 : K.lookup f12 = some ⟨oc12, od12, .func (PySem.W.fnOf "_law_is_cutting" "_law_is_cutting" (defArgs s_LawIsCutting) (defBody s_LawIsCutting) (defScope s_LawIsCutting) .none kV12 dc12 pm12 an12 cd12 ct12), sl12⟩) (c12 : PySem.W.codeIn K cd12 "_law_is_cutting" = true) (k12 : PySem.W.keepIn K (.ref f12) = true)
    {od13 an13 : Option Addr} {sl13 : Array (Option Value)} {oc13 kV13 dc13 pm13 cd13 ct13 : Value} {f13 : Addr} (a13 : PySem.W.nsIn K mainGlobals "is_cutting" = some (some (.ref f13))) (l13 : K.lookup f13 = some ⟨oc13, od13, .func (PySem.W.fnOf "is_cutting" "is_cutting" (defArgs s_IsCutting) (defBody s_IsCutting) (defScope s_IsCutting) .none kV13 dc13 pm13 an13 cd13 ct13), sl13⟩) (c13 : PySem.W.codeIn K cd13 "is_cutting" = true) (k13 : PySem.W.keepIn K (.ref f13) = true)
    {od14 an14 : Option Addr} {sl14 : Array (Option Value)} {oc14 kV14 dc14 pm14 cd14 ct14 : Value} {f14 : Addr} (a14 : PySem.W.nsIn K mainGlobals "check_path" = some (some (.ref f14))) (l14 : K.lookup f14 = some ⟨oc14, od14, .func (PySem.W.fnOf "check_path" "check_path" (defArgs s_CheckPath) (defBody s_CheckPath) (defScope s_CheckPath) .none kV14 dc14 pm14 an14 cd14 ct14), sl14⟩) (c14 : PySem.W.codeIn K cd14 "check_path" = true) (k14 : PySem.W.keepIn K (.ref f14) = true)
    {od15 an15 : Option Addr} {sl15 : Array (Option Value)} {oc15 kV15 dc15 pm15 cd15 ct15 : Value} {f15 : Addr} (a15 : PySem.W.nsIn K mainGlobals "_law_cutting" = some (some (.ref f15))) (l15 : K.lookup f15 = some ⟨oc15, od15, .func (PySem.W.fnOf "_law_cutting" "_law_cutting" (defArgs s_LawCutting) (defBody s_LawCutting) (defScope s_LawCutting) .none kV15 dc15 pm15 an15 cd15 ct15), sl15⟩) (c15 : PySem.W.codeIn K cd15 "_law_cutting" = true) (k15 : PySem.W.keepIn K (.ref f15) = true)
    {od16 an16 : Option Addr} {sl16 : Array (Option Value)} {oc16 kV16 dc16 pm16 cd16 ct16 : Value} {f16 : Addr} (a16 : PySem.W.nsIn K mainGlobals "_law_path" = some (some (.ref f16))) (l16 : K.lookup f16 = some ⟨oc16, od16, .func (PySem.W.fnOf "_law_path" "_law_path" (defArgs s_LawPath) (defBody s_LawPath) (defScope s_LawPath) .none kV16 dc16 pm16 an16 cd16 ct16), sl16⟩) (c16 : PySem.W.codeIn K cd16 "_law_path" = true) (k16 : PySem.W.keepIn K (.ref f16) = true)
    {od17 an17 : Option Addr} {sl17 : Array (Option Value)} {oc17 kV17 dc17 pm17 cd17 ct17 : Value} {f17 : Addr} (a17 : PySem.W.nsIn K mainGlobals "check_cutting" = some (some (.ref f17))) (l17 : K.lookup f17 = some ⟨oc17, od17, .func (PySem.W.fnOf "check_cutting" "check_cutting" (defArgs s_CheckCutting) (defBody s_CheckCutting) (defScope s_CheckCutting) .none kV17 dc17 pm17 an17 cd17 ct17), sl17⟩) (c17 : PySem.W.codeIn K cd17 "check_cutting" = true) (k17 : PySem.W.keepIn K (.ref f17) = true)
    {od18 an18 : Option Addr} {sl18 : Array (Option Value)} {oc18 kV18 dc18 pm18 cd18 ct18 : Value} {f18 : Addr} (a18 : PySem.W.nsIn K mainGlobals "crossing" = some (some (.ref f18))) (l18 : K.lookup f18 = some ⟨oc18, od18, .func (PySem.W.fnOf "crossing" "crossing" (defArgs s_Crossing) (defBody s_Crossing) (defScope s_Crossing) .none kV18 dc18 pm18 an18 cd18 ct18), sl18⟩) (c18 : PySem.W.codeIn K cd18 "crossing" = true) (k18 : PySem.W.keepIn K (.ref f18) = true)
    {od19 an19 : Option Addr} {sl19 : Array (Option Value)} {oc19 kV19 dc19 pm19 cd19 ct19 : Value} {f19 : Addr} (a19 : PySem.W.nsIn K mainGlobals "root_path" = some (some (.ref f19))) (l19 : K.lookup f19 = some ⟨oc19, od19, .func (PySem.W.fnOf "root_path" "root_path" (defArgs s_RootPath) (defBody s_RootPath) (defScope s_RootPath) .none kV19 dc19 pm19 an19 cd19 ct19), sl19⟩) (c19 : PySem.W.codeIn K cd19 "root_path" = true) (k19 : PySem.W.keepIn K (.ref f19) = true)
    {od20 an20 : Option Addr} {sl20 : Array (Option Value)} {oc20 kV20 dc20 pm20 cd20 ct20 : Value} {f20 : Addr} (a20 : PySem.W.nsIn K mainGlobals "_law_right" = some (some (.ref f20))) (l20 : K.lookup f20 = some ⟨oc20, od20, .func (PySem.W.fnOf "_law_right" "_law_right" (defArgs s_LawRight) (defBody s_LawRight) (defScope s_LawRight) .none kV20 dc20 pm20 an20 cd20 ct20), sl20⟩) (c20 : PySem.W.codeIn K cd20 "_law_right" = true) (k20 : PySem.W.keepIn K (.ref f20) = true)
    {od21 an21 : Option Addr} {sl21 : Array (Option Value)} {oc21 kV21 dc21 pm21 cd21 ct21 : Value} {f21 : Addr} (a21 : PySem.W.nsIn K mainGlobals "law" = some (some (.ref f21))) (l21 : K.lookup f21 = some ⟨oc21, od21, .func (PySem.W.fnOf "law" "law" (defArgs s_Law) (defBody s_Law) (defScope s_Law) .none kV21 dc21 pm21 an21 cd21 ct21), sl21⟩) (c21 : PySem.W.codeIn K cd21 "law" = true) (k21 : PySem.W.keepIn K (.ref f21) = true) (z_abs : PySem.W.nsIn K mainGlobals "abs" = some none) (z_all : PySem.W.nsIn K mainGlobals "all" = some none) (z_bool : PySem.W.nsIn K mainGlobals "bool" = some none) (z_int : PySem.W.nsIn K mainGlobals "int" = some none) (z_isinstance : PySem.W.nsIn K mainGlobals "isinstance" = some none) (z_len : PySem.W.nsIn K mainGlobals "len" = some none) (z_list : PySem.W.nsIn K mainGlobals "list" = some none) (z_max : PySem.W.nsIn K mainGlobals "max" = some none) (z_range : PySem.W.nsIn K mainGlobals "range" = some none) (z_repr : PySem.W.nsIn K mainGlobals "repr" = some none) (z_sum : PySem.W.nsIn K mainGlobals "sum" = some none) (z_tuple : PySem.W.nsIn K mainGlobals "tuple" = some none) (z_zip : PySem.W.nsIn K mainGlobals "zip" = some none) (z_gcd : PySem.W.nsIn K mainGlobals "gcd" = some (some (.builtin "math.gcd")))
    {C_SheetError : Addr} (aC_SheetError : PySem.W.nsIn K mainGlobals "SheetError" = some (some (.ref C_SheetError))) (xS_SheetError : PySem.W.excIn K C_SheetError [.type "ValueError", .type "Exception", .type "BaseException", .type "object"] "ValueError.__new__" = true) (hn_g : PySem.W.specialIn K (.builtin "object.__class__") "__get__" = some (some (.builtin "getset_descriptor.__get__"))) (ht_g : PySem.W.takesIn K (.builtin "object.__class__") = some true) (ga_SheetError : PySem.W.findIn K (.ref C_SheetError) "__getattribute__" = some (some (.builtin "BaseException.__getattribute__"))) (gg_SheetError : PySem.W.findIn K (.ref C_SheetError) "__getattr__" = some none) (hc_SheetError : PySem.W.findIn K (.ref C_SheetError) "__class__" = some (some (.builtin "object.__class__"))) (kC_SheetError : PySem.W.keepIn K (.ref C_SheetError) = true) (eC_SheetError : PySem.W.subIn K (.ref C_SheetError) (.type "BaseException") = some true) (tC_SheetError : PySem.W.typeIn K (.ref C_SheetError) = some (.type "type")) (hD_SheetError : PySem.W.hasDictIn K C_SheetError = true) (iS_SheetError : PySem.W.isClsIn K C_SheetError = true) (mo_SheetError : PySem.W.mroIn K C_SheetError (.type "object") = some true) (sv_SheetError : PySem.W.subIn K (.ref C_SheetError) (.type "ValueError") = some true)
    {C_InvalidCutting f_InvalidCutting t_InvalidCutting N_InvalidCutting : Addr} {nm_InvalidCutting q_InvalidCutting : Str} {bs_InvalidCutting sub_InvalidCutting : List Value} {sn_InvalidCutting : List Str} {ab_InvalidCutting : Bool} {col_InvalidCutting : Option Bool} {dd_InvalidCutting od_InvalidCutting an_InvalidCutting tod_InvalidCutting : Option Addr} {m0_InvalidCutting m1_InvalidCutting m2_InvalidCutting m3_InvalidCutting m5_InvalidCutting : Option Value} {sl_InvalidCutting tsl_InvalidCutting : Array (Option Value)} {oc_InvalidCutting kV_InvalidCutting dc_InvalidCutting pm_InvalidCutting cd_InvalidCutting ct_InvalidCutting toc_InvalidCutting : Value} {tn_InvalidCutting : Nat} (aC_InvalidCutting : PySem.W.nsIn K mainGlobals "InvalidCutting" = some (some (.ref C_InvalidCutting))) (xL_InvalidCutting : K.lookup C_InvalidCutting = some (PySem.excClassObj nm_InvalidCutting q_InvalidCutting C_InvalidCutting N_InvalidCutting bs_InvalidCutting [.ref C_SheetError, .type "ValueError", .type "Exception", .type "BaseException", .type "object"] true sn_InvalidCutting sub_InvalidCutting ab_InvalidCutting col_InvalidCutting dd_InvalidCutting m0_InvalidCutting m1_InvalidCutting m2_InvalidCutting m3_InvalidCutting m5_InvalidCutting "ValueError.__new__")) (sa_InvalidCutting : PySem.W.findIn K (.ref C_InvalidCutting) "__setattr__" = some (some (.builtin "object.__setattr__"))) (nv_InvalidCutting : PySem.W.findIn K (.ref C_InvalidCutting) "value" = some none) (iC_InvalidCutting : PySem.W.findIn K (.ref C_InvalidCutting) "__init__" = some (some (.ref f_InvalidCutting))) (tI_InvalidCutting : PySem.W.typeIn K (.ref f_InvalidCutting) = some (.type "function")) (l_InvalidCutting : K.lookup f_InvalidCutting = some ⟨oc_InvalidCutting, od_InvalidCutting, .func (PySem.W.fnOf "__init__" "InvalidCutting.__init__" (defArgs s_iInvalidCutting) (defBody s_iInvalidCutting) (defScope s_iInvalidCutting) (.ref t_InvalidCutting) kV_InvalidCutting dc_InvalidCutting pm_InvalidCutting an_InvalidCutting cd_InvalidCutting ct_InvalidCutting), sl_InvalidCutting⟩) (c_InvalidCutting : PySem.W.codeIn K cd_InvalidCutting "InvalidCutting.__init__" = true) (kf_InvalidCutting : PySem.W.keepIn K (.ref f_InvalidCutting) = true) (lt_InvalidCutting : K.lookup t_InvalidCutting = some ⟨toc_InvalidCutting, tod_InvalidCutting, .seq (List.toArray [.none]) tn_InvalidCutting, tsl_InvalidCutting⟩) (ss_InvalidCutting : PySem.W.subIn K (.ref C_InvalidCutting) (.ref C_SheetError) = some true) (sf_InvalidCutting : PySem.W.subIn K (.ref C_SheetError) (.ref C_InvalidCutting) = some false) (ga_InvalidCutting : PySem.W.findIn K (.ref C_InvalidCutting) "__getattribute__" = some (some (.builtin "BaseException.__getattribute__"))) (gg_InvalidCutting : PySem.W.findIn K (.ref C_InvalidCutting) "__getattr__" = some none) (hc_InvalidCutting : PySem.W.findIn K (.ref C_InvalidCutting) "__class__" = some (some (.builtin "object.__class__"))) (kC_InvalidCutting : PySem.W.keepIn K (.ref C_InvalidCutting) = true) (eC_InvalidCutting : PySem.W.subIn K (.ref C_InvalidCutting) (.type "BaseException") = some true) (tC_InvalidCutting : PySem.W.typeIn K (.ref C_InvalidCutting) = some (.type "type")) (hD_InvalidCutting : PySem.W.hasDictIn K C_InvalidCutting = true) (iS_InvalidCutting : PySem.W.isClsIn K C_InvalidCutting = true) (mo_InvalidCutting : PySem.W.mroIn K C_InvalidCutting (.type "object") = some true) (sv_InvalidCutting : PySem.W.subIn K (.ref C_InvalidCutting) (.type "ValueError") = some true)
    {C_InvalidList f_InvalidList t_InvalidList N_InvalidList : Addr} {nm_InvalidList q_InvalidList : Str} {bs_InvalidList sub_InvalidList : List Value} {sn_InvalidList : List Str} {ab_InvalidList : Bool} {col_InvalidList : Option Bool} {dd_InvalidList od_InvalidList an_InvalidList tod_InvalidList : Option Addr} {m0_InvalidList m1_InvalidList m2_InvalidList m3_InvalidList m5_InvalidList : Option Value} {sl_InvalidList tsl_InvalidList : Array (Option Value)} {oc_InvalidList kV_InvalidList dc_InvalidList pm_InvalidList cd_InvalidList ct_InvalidList toc_InvalidList : Value} {tn_InvalidList : Nat} (aC_InvalidList : PySem.W.nsIn K mainGlobals "InvalidList" = some (some (.ref C_InvalidList))) (xL_InvalidList : K.lookup C_InvalidList = some (PySem.excClassObj nm_InvalidList q_InvalidList C_InvalidList N_InvalidList bs_InvalidList [.ref C_SheetError, .type "ValueError", .type "Exception", .type "BaseException", .type "object"] true sn_InvalidList sub_InvalidList ab_InvalidList col_InvalidList dd_InvalidList m0_InvalidList m1_InvalidList m2_InvalidList m3_InvalidList m5_InvalidList "ValueError.__new__")) (sa_InvalidList : PySem.W.findIn K (.ref C_InvalidList) "__setattr__" = some (some (.builtin "object.__setattr__"))) (nv_InvalidList : PySem.W.findIn K (.ref C_InvalidList) "value" = some none) (iC_InvalidList : PySem.W.findIn K (.ref C_InvalidList) "__init__" = some (some (.ref f_InvalidList))) (tI_InvalidList : PySem.W.typeIn K (.ref f_InvalidList) = some (.type "function")) (l_InvalidList : K.lookup f_InvalidList = some ⟨oc_InvalidList, od_InvalidList, .func (PySem.W.fnOf "__init__" "InvalidList.__init__" (defArgs s_iInvalidList) (defBody s_iInvalidList) (defScope s_iInvalidList) (.ref t_InvalidList) kV_InvalidList dc_InvalidList pm_InvalidList an_InvalidList cd_InvalidList ct_InvalidList), sl_InvalidList⟩) (c_InvalidList : PySem.W.codeIn K cd_InvalidList "InvalidList.__init__" = true) (kf_InvalidList : PySem.W.keepIn K (.ref f_InvalidList) = true) (lt_InvalidList : K.lookup t_InvalidList = some ⟨toc_InvalidList, tod_InvalidList, .seq (List.toArray [.none]) tn_InvalidList, tsl_InvalidList⟩) (ss_InvalidList : PySem.W.subIn K (.ref C_InvalidList) (.ref C_SheetError) = some true) (sf_InvalidList : PySem.W.subIn K (.ref C_SheetError) (.ref C_InvalidList) = some false) (ga_InvalidList : PySem.W.findIn K (.ref C_InvalidList) "__getattribute__" = some (some (.builtin "BaseException.__getattribute__"))) (gg_InvalidList : PySem.W.findIn K (.ref C_InvalidList) "__getattr__" = some none) (hc_InvalidList : PySem.W.findIn K (.ref C_InvalidList) "__class__" = some (some (.builtin "object.__class__"))) (kC_InvalidList : PySem.W.keepIn K (.ref C_InvalidList) = true) (eC_InvalidList : PySem.W.subIn K (.ref C_InvalidList) (.type "BaseException") = some true) (tC_InvalidList : PySem.W.typeIn K (.ref C_InvalidList) = some (.type "type")) (hD_InvalidList : PySem.W.hasDictIn K C_InvalidList = true) (iS_InvalidList : PySem.W.isClsIn K C_InvalidList = true) (mo_InvalidList : PySem.W.mroIn K C_InvalidList (.type "object") = some true) (sv_InvalidList : PySem.W.subIn K (.ref C_InvalidList) (.type "ValueError") = some true) (p_SheetError_SheetError : PySem.W.subIn K (.ref C_SheetError) (.ref C_SheetError) = some true) (p_InvalidCutting_InvalidCutting : PySem.W.subIn K (.ref C_InvalidCutting) (.ref C_InvalidCutting) = some true) (p_InvalidCutting_InvalidList : PySem.W.subIn K (.ref C_InvalidCutting) (.ref C_InvalidList) = some false) (p_InvalidList_InvalidCutting : PySem.W.subIn K (.ref C_InvalidList) (.ref C_InvalidCutting) = some false) (p_InvalidList_InvalidList : PySem.W.subIn K (.ref C_InvalidList) (.ref C_InvalidList) = some true) :
    ∃ fd : FuncData, (∀ (s : Shared) (v : Value), BindsTo s fd ⟨[v], []⟩ [("_law_script", v)]) ∧ ∀ base : Heap, K.In base → base.Ns mainGlobals mg → FnG l.prog w K mg base 7 fa fd ["_law_script"] (Kx.spLaw K) := by
  have e := hfa.symm.trans (PySem.W.mg_of X G a21)
  cases e
  have T : Txt K mg := ⟨PySem.W.mg_none_of X G z_abs, PySem.W.mg_none_of X G z_all, PySem.W.mg_none_of X G z_bool, PySem.W.mg_none_of X G z_int, PySem.W.mg_none_of X G z_isinstance, PySem.W.mg_none_of X G z_len, PySem.W.mg_none_of X G z_list, PySem.W.mg_none_of X G z_max, PySem.W.mg_none_of X G z_range, PySem.W.mg_none_of X G z_repr, PySem.W.mg_none_of X G z_sum, PySem.W.mg_none_of X G z_tuple, PySem.W.mg_none_of X G z_zip, PySem.W.mg_of X G z_gcd⟩
  have F0 := fun_mk (st := s_IsWhole) l0 c0 k0
  have b0 := F0.binds (ps := ["value"]) fun _ _ _ _ _ _ us hl => match us, hl with | [_], _ => rfl
  have F1 := fun_mk (st := s_AreWithoutDivisor) l1 c1 k1
  have b1 := F1.binds (ps := ["one", "other", "third"]) fun _ _ _ _ _ _ us hl => match us, hl with | [_, _, _], _ => rfl
  have F2 := fun_mk (st := s_LawHash) l2 c2 k2
  have b2 := F2.binds (ps := ["_law_seed", "_law_index"]) fun _ _ _ _ _ _ us hl => match us, hl with | [_, _], _ => rfl
  have F3 := fun_mk (st := s_LawCell) l3 c3 k3
  have b3 := F3.binds (ps := ["_law_script", "_law_index"]) fun _ _ _ _ _ _ us hl => match us, hl with | [_, _], _ => rfl
  have F4 := fun_mk (st := s_LawCommon) l4 c4 k4
  have b4 := F4.binds (ps := ["_law_one", "_law_other"]) fun _ _ _ _ _ _ us hl => match us, hl with | [_, _], _ => rfl
  have F5 := fun_mk (st := s_LawCrossing) l5 c5 k5
  have b5 := F5.binds (ps := ["_law_one", "_law_other"]) fun _ _ _ _ _ _ us hl => match us, hl with | [_, _], _ => rfl
  have F6 := fun_mk (st := s_LawRooted) l6 c6 k6
  have b6 := F6.binds (ps := ["_law_cutting_here", "_law_path_here"]) fun _ _ _ _ _ _ us hl => match us, hl with | [_, _], _ => rfl
  have F7 := fun_mk (st := s_LawSum) l7 c7 k7
  have b7 := F7.binds (ps := ["_law_one", "_law_other", "_law_often"]) fun _ _ _ _ _ _ us hl => match us, hl with | [_, _, _], _ => rfl
  have F8 := fun_mk (st := s_AreWholes) l8 c8 k8
  have b8 := F8.binds (ps := ["value", "many"]) fun _ _ _ _ _ _ us hl => match us, hl with | [_, _], _ => rfl
  have F9 := fun_mk (st := s_IsPath) l9 c9 k9
  have b9 := F9.binds (ps := ["value"]) fun _ _ _ _ _ _ us hl => match us, hl with | [_], _ => rfl
  have F10 := fun_mk (st := s_LawRandom) l10 c10 k10
  have b10 := F10.binds (ps := ["_law_generator_here", "_law_bound"]) fun _ _ _ _ _ _ us hl => match us, hl with | [_, _], _ => rfl
  have F11 := fun_mk (st := s_LawGenerator) l11 c11 k11
  have b11 := F11.binds (ps := ["_law_script", "_law_index"]) fun _ _ _ _ _ _ us hl => match us, hl with | [_, _], _ => rfl
  have F12 := fun_mk (st := s_LawIsCutting) l12 c12 k12
  have b12 := F12.binds (ps := ["_law_a", "_law_b", "_law_c", "_law_e"]) fun _ _ _ _ _ _ us hl => match us, hl with | [_, _, _, _], _ => rfl
  have F13 := fun_mk (st := s_IsCutting) l13 c13 k13
  have b13 := F13.binds (ps := ["value"]) fun _ _ _ _ _ _ us hl => match us, hl with | [_], _ => rfl
  have F14 := fun_mk (st := s_CheckPath) l14 c14 k14
  have b14 := F14.binds (ps := ["path"]) fun _ _ _ _ _ _ us hl => match us, hl with | [_], _ => rfl
  have F15 := fun_mk (st := s_LawCutting) l15 c15 k15
  have b15 := F15.binds (ps := ["_law_generator_here", "_law_most"]) fun _ _ _ _ _ _ us hl => match us, hl with | [_, _], _ => rfl
  have F16 := fun_mk (st := s_LawPath) l16 c16 k16
  have b16 := F16.binds (ps := ["_law_generator_here"]) fun _ _ _ _ _ _ us hl => match us, hl with | [_], _ => rfl
  have F17 := fun_mk (st := s_CheckCutting) l17 c17 k17
  have b17 := F17.binds (ps := ["cutting"]) fun _ _ _ _ _ _ us hl => match us, hl with | [_], _ => rfl
  have F18 := fun_mk (st := s_Crossing) l18 c18 k18
  have b18 := F18.binds (ps := ["one", "other"]) fun _ _ _ _ _ _ us hl => match us, hl with | [_, _], _ => rfl
  have F19 := fun_mk (st := s_RootPath) l19 c19 k19
  have b19 := F19.binds (ps := ["cutting", "path"]) fun _ _ _ _ _ _ us hl => match us, hl with | [_, _], _ => rfl
  have F20 := fun_mk (st := s_LawRight) l20 c20 k20
  have b20 := F20.binds (ps := ["_law_generator_here"]) fun _ _ _ _ _ _ us hl => match us, hl with | [_], _ => rfl
  have F21 := fun_mk (st := s_Law) l21 c21 k21
  have b21 := F21.binds (ps := ["_law_script"]) fun _ _ _ _ _ _ us hl => match us, hl with | [_], _ => rfl
  have kb_Crossing_oo : KB0 K _ ["one", "other"] ["other", "one"] g_Crossing_oo g_Crossing_oo := kb_mk F18 (fun _ _ _ _ _ _ ws hl => match ws, hl with | [_, _], _ => rfl) (fun {zs ws} hl r => match zs, hl, ws, r with | [_, _], _, _, (.cons r0 (.cons r1 .nil)) => (.cons r1 (.cons r0 .nil))) (fun zs hl => match zs, hl with | [_, _], _ => rfl)
  have kb_RootPath_pc : KB0 K _ ["cutting", "path"] ["path", "cutting"] g_RootPath_pc g_RootPath_pc := kb_mk F19 (fun _ _ _ _ _ _ ws hl => match ws, hl with | [_, _], _ => rfl) (fun {zs ws} hl r => match zs, hl, ws, r with | [_, _], _, _, (.cons r0 (.cons r1 .nil)) => (.cons r1 (.cons r0 .nil))) (fun zs hl => match zs, hl with | [_, _], _ => rfl)
  refine ⟨PySem.W.fnOf "law" "law" (defArgs s_Law) (defBody s_Law) (defScope s_Law) .none kV21 dc21 pm21 an21 cd21 ct21, fun s v => .of_eq rfl, fun base _ _ => ?_⟩
  have EC_SheetError : L2.ExcC K C_SheetError := ⟨ga_SheetError, gg_SheetError, eC_SheetError, hD_SheetError, hc_SheetError, hn_g, ht_g, mo_SheetError⟩
  have EC_InvalidCutting : L2.ExcC K C_InvalidCutting := ⟨ga_InvalidCutting, gg_InvalidCutting, eC_InvalidCutting, hD_InvalidCutting, hc_InvalidCutting, hn_g, ht_g, mo_InvalidCutting⟩
  have EC_InvalidList : L2.ExcC K C_InvalidList := ⟨ga_InvalidList, gg_InvalidList, eC_InvalidList, hD_InvalidList, hc_InvalidList, hn_g, ht_g, mo_InvalidList⟩
  have E_SheetError : ErrP K mg "SheetError" C_SheetError [.type "ValueError", .type "Exception", .type "BaseException", .type "object"] "ValueError" "ValueError.__new__" "ValueError.__init__" := ⟨F.excBase_ValueError, xS_SheetError, PySem.W.mg_of X G aC_SheetError, kC_SheetError, EC_SheetError⟩
  have T_InvalidCutting : OexC K C_InvalidCutting := ⟨⟨_, _, _, _, _, _, _, _, _, _, _, _, _, _, _, xL_InvalidCutting, rfl⟩, sa_InvalidCutting, eC_InvalidCutting, tC_InvalidCutting, kC_InvalidCutting⟩
  have FI_InvalidCutting : FunD K "__init__" "InvalidCutting.__init__" (defArgs s_iInvalidCutting) (defBody s_iInvalidCutting) (defScope s_iInvalidCutting) [V.non] [] f_InvalidCutting (PySem.W.fnOf "__init__" "InvalidCutting.__init__" (defArgs s_iInvalidCutting) (defBody s_iInvalidCutting) (defScope s_iInvalidCutting) (.ref t_InvalidCutting) kV_InvalidCutting dc_InvalidCutting pm_InvalidCutting an_InvalidCutting cd_InvalidCutting ct_InvalidCutting) := ⟨⟨oc_InvalidCutting, od_InvalidCutting, .ref t_InvalidCutting, kV_InvalidCutting, dc_InvalidCutting, pm_InvalidCutting, an_InvalidCutting, cd_InvalidCutting, ct_InvalidCutting, sl_InvalidCutting, rfl, l_InvalidCutting, c_InvalidCutting, .inr ⟨by simp, t_InvalidCutting, _, [.none], tn_InvalidCutting, rfl, lt_InvalidCutting, rfl, .cons rfl .nil⟩, .inl rfl⟩, kf_InvalidCutting⟩
  have E_InvalidCutting : ErrN l.prog w K mg base "InvalidCutting" C_InvalidCutting f_InvalidCutting _ := errN_mk iC_InvalidCutting tI_InvalidCutting (okiInvalidCutting FI_InvalidCutting T_InvalidCutting nv_InvalidCutting) (bdiInvalidCutting FI_InvalidCutting) T_InvalidCutting (PySem.W.mg_of X G aC_InvalidCutting) ga_InvalidCutting gg_InvalidCutting hD_InvalidCutting EC_InvalidCutting nv_InvalidCutting
  have T_InvalidList : OexC K C_InvalidList := ⟨⟨_, _, _, _, _, _, _, _, _, _, _, _, _, _, _, xL_InvalidList, rfl⟩, sa_InvalidList, eC_InvalidList, tC_InvalidList, kC_InvalidList⟩
  have FI_InvalidList : FunD K "__init__" "InvalidList.__init__" (defArgs s_iInvalidList) (defBody s_iInvalidList) (defScope s_iInvalidList) [V.non] [] f_InvalidList (PySem.W.fnOf "__init__" "InvalidList.__init__" (defArgs s_iInvalidList) (defBody s_iInvalidList) (defScope s_iInvalidList) (.ref t_InvalidList) kV_InvalidList dc_InvalidList pm_InvalidList an_InvalidList cd_InvalidList ct_InvalidList) := ⟨⟨oc_InvalidList, od_InvalidList, .ref t_InvalidList, kV_InvalidList, dc_InvalidList, pm_InvalidList, an_InvalidList, cd_InvalidList, ct_InvalidList, sl_InvalidList, rfl, l_InvalidList, c_InvalidList, .inr ⟨by simp, t_InvalidList, _, [.none], tn_InvalidList, rfl, lt_InvalidList, rfl, .cons rfl .nil⟩, .inl rfl⟩, kf_InvalidList⟩
  have E_InvalidList : ErrN l.prog w K mg base "InvalidList" C_InvalidList f_InvalidList _ := errN_mk iC_InvalidList tI_InvalidList (okiInvalidList FI_InvalidList T_InvalidList nv_InvalidList) (bdiInvalidList FI_InvalidList) T_InvalidList (PySem.W.mg_of X G aC_InvalidList) ga_InvalidList gg_InvalidList hD_InvalidList EC_InvalidList nv_InvalidList
  have D_LawHash : DefAt l.prog w K mg base 1 "_law_hash" f2 _ ["_law_seed", "_law_index"] (spHash) := ⟨(okLawHash (P := l.prog) (w := w) (mg := mg) (base := base) F2 T    ), PySem.W.mg_of X G a2, k2, b2⟩
  have D_LawCell : DefAt l.prog w K mg base 1 "_law_cell" f3 _ ["_law_script", "_law_index"] (spCell K) := ⟨(okLawCell (P := l.prog) (w := w) (mg := mg) (base := base) F3 T    ), PySem.W.mg_of X G a3, k3, b3⟩
  have D_LawCommon : DefAt l.prog w K mg base 1 "_law_common" f4 _ ["_law_one", "_law_other"] (spCommon) := ⟨(okLawCommon (P := l.prog) (w := w) (mg := mg) (base := base) F4 T    ), PySem.W.mg_of X G a4, k4, b4⟩
  have D_IsWhole : DefAt l.prog w K mg base 1 "is_whole" f0 _ ["value"] (spWhole) := ⟨(okIsWhole (P := l.prog) (w := w) (mg := mg) (base := base) F0 T    ), PySem.W.mg_of X G a0, k0, b0⟩
  have D_AreWithoutDivisor : DefAt l.prog w K mg base 1 "_are_without_divisor" f1 _ ["one", "other", "third"] (spApart) := ⟨(okAreWithoutDivisor (P := l.prog) (w := w) (mg := mg) (base := base) F1 T    ), PySem.W.mg_of X G a1, k1, b1⟩
  have D_LawCrossing : DefAt l.prog w K mg base 1 "_law_crossing" f5 _ ["_law_one", "_law_other"] (spLawCross) := ⟨(okLawCrossing (P := l.prog) (w := w) (mg := mg) (base := base) F5 T    ), PySem.W.mg_of X G a5, k5, b5⟩
  have D_LawRooted : DefAt l.prog w K mg base 1 "_law_rooted" f6 _ ["_law_cutting_here", "_law_path_here"] (spLawRooted) := ⟨(okLawRooted (P := l.prog) (w := w) (mg := mg) (base := base) F6 T    ), PySem.W.mg_of X G a6, k6, b6⟩
  have D_LawSum : DefAt l.prog w K mg base 1 "_law_sum" f7 _ ["_law_one", "_law_other", "_law_often"] (spLawSum) := ⟨(okLawSum (P := l.prog) (w := w) (mg := mg) (base := base) F7 T    ), PySem.W.mg_of X G a7, k7, b7⟩
  have D_LawRandom : DefAt l.prog w K mg base 2 "_law_random" f10 _ ["_law_generator_here", "_law_bound"] (spRandom) := ⟨(okLawRandom (P := l.prog) (w := w) (mg := mg) (base := base) F10 T  D_LawHash  ), PySem.W.mg_of X G a10, k10, b10⟩
  have D_LawGenerator : DefAt l.prog w K mg base 2 "_law_generator" f11 _ ["_law_script", "_law_index"] (spGen K) := ⟨(okLawGenerator (P := l.prog) (w := w) (mg := mg) (base := base) F11 T  D_LawCell  ), PySem.W.mg_of X G a11, k11, b11⟩
  have D_AreWholes : DefAt l.prog w K mg base 2 "are_wholes" f8 _ ["value", "many"] (spWholes) := ⟨(okAreWholes (P := l.prog) (w := w) (mg := mg) (base := base) F8 T  D_IsWhole  ), PySem.W.mg_of X G a8, k8, b8⟩
  have D_IsPath : DefAt l.prog w K mg base 2 "is_path" f9 _ ["value"] (spIsPath0) := ⟨(okIsPath (P := l.prog) (w := w) (mg := mg) (base := base) F9 T  D_IsWhole  ), PySem.W.mg_of X G a9, k9, b9⟩
  have D_LawIsCutting : DefAt l.prog w K mg base 2 "_law_is_cutting" f12 _ ["_law_a", "_law_b", "_law_c", "_law_e"] (spLawIsCutting) := ⟨(okLawIsCutting (P := l.prog) (w := w) (mg := mg) (base := base) F12 T  D_LawCommon  ), PySem.W.mg_of X G a12, k12, b12⟩
  have D_IsCutting : DefAt l.prog w K mg base 3 "is_cutting" f13 _ ["value"] (spIsCutting) := ⟨(okIsCutting (P := l.prog) (w := w) (mg := mg) (base := base) F13 T  D_AreWholes D_AreWithoutDivisor  ), PySem.W.mg_of X G a13, k13, b13⟩
  have D_CheckPath : DefAt l.prog w K mg base 3 "check_path" f14 _ ["path"] (spCheckPath0) := ⟨(okCheckPath (P := l.prog) (w := w) (mg := mg) (base := base) F14 T E_InvalidList D_IsPath  ), PySem.W.mg_of X G a14, k14, b14⟩
  have D_LawPath : DefAt l.prog w K mg base 3 "_law_path" f16 _ ["_law_generator_here"] (spLawPath) := ⟨(okLawPath (P := l.prog) (w := w) (mg := mg) (base := base) F16 T  D_LawRandom  ), PySem.W.mg_of X G a16, k16, b16⟩
  have D_LawCutting : DefAt l.prog w K mg base 3 "_law_cutting" f15 _ ["_law_generator_here", "_law_most"] (spLawCut40) := ⟨(okLawCutting (P := l.prog) (w := w) (mg := mg) (base := base) F15 T  D_LawRandom D_LawIsCutting D_LawCommon  ), PySem.W.mg_of X G a15, k15, b15⟩
  have D_CheckCutting : DefAt l.prog w K mg base 4 "check_cutting" f17 _ ["cutting"] (spCheckCut0) := ⟨(okCheckCutting (P := l.prog) (w := w) (mg := mg) (base := base) F17 T E_InvalidCutting D_IsCutting  ), PySem.W.mg_of X G a17, k17, b17⟩
  have D_Crossing : DefAt l.prog w K mg base 4 "crossing" f18 _ ["one", "other"] (spCross) := ⟨(okCrossing (P := l.prog) (w := w) (mg := mg) (base := base) F18 T  D_CheckPath  ), PySem.W.mg_of X G a18, k18, b18⟩
  have D_RootPath : DefAt l.prog w K mg base 5 "root_path" f19 _ ["cutting", "path"] (spRootPath) := ⟨(okRootPath (P := l.prog) (w := w) (mg := mg) (base := base) F19 T  D_CheckCutting D_CheckPath  ), PySem.W.mg_of X G a19, k19, b19⟩
  have D_LawRight : DefG l.prog w K mg base 6 "_law_right" f20 _ ["_law_generator_here"] (spRight K) := ⟨(okLawRight (P := l.prog) (w := w) (mg := mg) (base := base) F20 T  D_LawCutting D_Crossing D_RootPath D_LawPath D_LawSum D_LawRandom D_LawRooted D_LawCrossing  kb_Crossing_oo kb_RootPath_pc), PySem.W.mg_of X G a20, k20, b20⟩
  exact (okLaw (P := l.prog) (w := w) (mg := mg) (base := base) F21 T  D_LawRight D_Crossing D_RootPath D_LawGenerator  )
theorem walk {l : PySem.W.OpenLaw} {q : Program} {loose : List Str} {XP : (Str → Option Value) → Heap → Prop} {YP : World → Heap → Prop} {d : DefRec} {K : Params → PySem.W.Frag} (hn : l.most = some 63) (hdf : d.params.defaults = [])
    (hY : ∀ (w : World) (h : Heap), YP w h → (K w.params).In h)
    (F : ∀ (w : World) (mg : Str → Option Value) (fa : Addr) (h : Heap), (K w.params).In h → h.Ns mainGlobals mg → mg d.name = some (.ref fa) →
      ∃ fd : FuncData, (∀ (s : Shared) (u : Value), BindsTo s fd ⟨[u], []⟩ [("_law_script", u)]) ∧ ∀ base : Heap, (K w.params).In base → base.Ns mainGlobals mg → FnG l.prog w (K w.params) mg base 7 fa fd ["_law_script"] (Kx.spLaw (K w.params))) :
    PySem.W.WalkO q loose XP YP l.row.toRowW d [] (fun f vs => PySem.call f vs) :=
  Kx.walkG (n := 63) (k := 7) (x := "_law_script") (sp := fun w => Kx.spLaw (K w.params)) hn (by decide) hdf ⟨rfl, by decide, by decide⟩ hY F (fun _ _ a ns hl _ hS => ⟨a, ns, rfl, hS, hl, fun _ => rfl⟩)
end L40

open PySem PySem.W PyProof.Rows
set_option maxRecDepth 100000 in
set_option maxHeartbeats 0 in
theorem PySem.Challenge.cw_slitsheets_k40_paths_and_their_crossings_holds : PySem.Challenge.rw_slitsheets_k40_paths_and_their_crossings.Holds := by
  w_on; o_law; k_head; (case hw => w_witness2)
  k_fill
  refine L40.walk (l := PySem.Challenge.rw_slitsheets_k40_paths_and_their_crossings) rfl rfl (fun w h Y => PySem.W.kIn_of Y) ?F
  case F =>
    intro w mg fa h KX G hmg
    refine' L40.all_mk KX G hmg ?a0 ?l0 ?c0 ?k0 ?a1 ?l1 ?c1 ?k1 ?a2 ?l2 ?c2 ?k2 ?a3 ?l3 ?c3 ?k3 ?a4 ?l4 ?c4 ?k4 ?a5 ?l5 ?c5 ?k5 ?a6 ?l6 ?c6 ?k6 ?a7 ?l7 ?c7 ?k7 ?a8 ?l8 ?c8 ?k8 ?a9 ?l9 ?c9 ?k9 ?a10 ?l10 ?c10 ?k10 ?a11 ?l11 ?c11 ?k11 ?a12 ?l12 ?c12 ?k12 ?a13 ?l13 ?c13 ?k13 ?a14 ?l14 ?c14 ?k14 ?a15 ?l15 ?c15 ?k15 ?a16 ?l16 ?c16 ?k16 ?a17 ?l17 ?c17 ?k17 ?a18 ?l18 ?c18 ?k18 ?a19 ?l19 ?c19 ?k19 ?a20 ?l20 ?c20 ?k20 ?a21 ?l21 ?c21 ?k21 ?z_abs ?z_all ?z_bool ?z_int ?z_isinstance ?z_len ?z_list ?z_max ?z_range ?z_repr ?z_sum ?z_tuple ?z_zip ?z_gcd ?aC_SheetError ?xS_SheetError ?hn_g ?ht_g ?ga_SheetError ?gg_SheetError ?hc_SheetError ?kC_SheetError ?eC_SheetError ?tC_SheetError ?hD_SheetError ?iS_SheetError ?mo_SheetError ?sv_SheetError ?aC_InvalidCutting ?xL_InvalidCutting ?sa_InvalidCutting ?nv_InvalidCutting ?iC_InvalidCutting ?tI_InvalidCutting ?l_InvalidCutting ?c_InvalidCutting ?kf_InvalidCutting ?lt_InvalidCutting ?ss_InvalidCutting ?sf_InvalidCutting ?ga_InvalidCutting ?gg_InvalidCutting ?hc_InvalidCutting ?kC_InvalidCutting ?eC_InvalidCutting ?tC_InvalidCutting ?hD_InvalidCutting ?iS_InvalidCutting ?mo_InvalidCutting ?sv_InvalidCutting ?aC_InvalidList ?xL_InvalidList ?sa_InvalidList ?nv_InvalidList ?iC_InvalidList ?tI_InvalidList ?l_InvalidList ?c_InvalidList ?kf_InvalidList ?lt_InvalidList ?ss_InvalidList ?sf_InvalidList ?ga_InvalidList ?gg_InvalidList ?hc_InvalidList ?kC_InvalidList ?eC_InvalidList ?tC_InvalidList ?hD_InvalidList ?iS_InvalidList ?mo_InvalidList ?sv_InvalidList ?p_SheetError_SheetError ?p_InvalidCutting_InvalidCutting ?p_InvalidCutting_InvalidList ?p_InvalidList_InvalidCutting ?p_InvalidList_InvalidList
    (case a0 => first | k_is | rfl)
    (case l0 => first | k_is | rfl)
    (case c0 => first | k_is | rfl)
    (case k0 => first | k_is | rfl)
    (case a1 => first | k_is | rfl)
    (case l1 => first | k_is | rfl)
    (case c1 => first | k_is | rfl)
    (case k1 => first | k_is | rfl)
    (case a2 => first | k_is | rfl)
    (case l2 => first | k_is | rfl)
    (case c2 => first | k_is | rfl)
    (case k2 => first | k_is | rfl)
    (case a3 => first | k_is | rfl)
    (case l3 => first | k_is | rfl)
    (case c3 => first | k_is | rfl)
    (case k3 => first | k_is | rfl)
    (case a4 => first | k_is | rfl)
    (case l4 => first | k_is | rfl)
    (case c4 => first | k_is | rfl)
    (case k4 => first | k_is | rfl)
    (case a5 => first | k_is | rfl)
    (case l5 => first | k_is | rfl)
    (case c5 => first | k_is | rfl)
    (case k5 => first | k_is | rfl)
    (case a6 => first | k_is | rfl)
    (case l6 => first | k_is | rfl)
    (case c6 => first | k_is | rfl)
    (case k6 => first | k_is | rfl)
    (case a7 => first | k_is | rfl)
    (case l7 => first | k_is | rfl)
    (case c7 => first | k_is | rfl)
    (case k7 => first | k_is | rfl)
    (case a8 => first | k_is | rfl)
    (case l8 => first | k_is | rfl)
    (case c8 => first | k_is | rfl)
    (case k8 => first | k_is | rfl)
    (case a9 => first | k_is | rfl)
    (case l9 => first | k_is | rfl)
    (case c9 => first | k_is | rfl)
    (case k9 => first | k_is | rfl)
    (case a10 => first | k_is | rfl)
    (case l10 => first | k_is | rfl)
    (case c10 => first | k_is | rfl)
    (case k10 => first | k_is | rfl)
    (case a11 => first | k_is | rfl)
    (case l11 => first | k_is | rfl)
    (case c11 => first | k_is | rfl)
    (case k11 => first | k_is | rfl)
    (case a12 => first | k_is | rfl)
    (case l12 => first | k_is | rfl)
    (case c12 => first | k_is | rfl)
    (case k12 => first | k_is | rfl)
    (case a13 => first | k_is | rfl)
    (case l13 => first | k_is | rfl)
    (case c13 => first | k_is | rfl)
    (case k13 => first | k_is | rfl)
    (case a14 => first | k_is | rfl)
    (case l14 => first | k_is | rfl)
    (case c14 => first | k_is | rfl)
    (case k14 => first | k_is | rfl)
    (case a15 => first | k_is | rfl)
    (case l15 => first | k_is | rfl)
    (case c15 => first | k_is | rfl)
    (case k15 => first | k_is | rfl)
    (case a16 => first | k_is | rfl)
    (case l16 => first | k_is | rfl)
    (case c16 => first | k_is | rfl)
    (case k16 => first | k_is | rfl)
    (case a17 => first | k_is | rfl)
    (case l17 => first | k_is | rfl)
    (case c17 => first | k_is | rfl)
    (case k17 => first | k_is | rfl)
    (case a18 => first | k_is | rfl)
    (case l18 => first | k_is | rfl)
    (case c18 => first | k_is | rfl)
    (case k18 => first | k_is | rfl)
    (case a19 => first | k_is | rfl)
    (case l19 => first | k_is | rfl)
    (case c19 => first | k_is | rfl)
    (case k19 => first | k_is | rfl)
    (case a20 => first | k_is | rfl)
    (case l20 => first | k_is | rfl)
    (case c20 => first | k_is | rfl)
    (case k20 => first | k_is | rfl)
    (case a21 => first | k_is | rfl)
    (case l21 => first | k_is | rfl)
    (case c21 => first | k_is | rfl)
    (case k21 => first | k_is | rfl)
    (case z_abs => first | k_is | rfl)
    (case z_all => first | k_is | rfl)
    (case z_bool => first | k_is | rfl)
    (case z_int => first | k_is | rfl)
    (case z_isinstance => first | k_is | rfl)
    (case z_len => first | k_is | rfl)
    (case z_list => first | k_is | rfl)
    (case z_max => first | k_is | rfl)
    (case z_range => first | k_is | rfl)
    (case z_repr => first | k_is | rfl)
    (case z_sum => first | k_is | rfl)
    (case z_tuple => first | k_is | rfl)
    (case z_zip => first | k_is | rfl)
    (case z_gcd => first | k_is | rfl)
    (case aC_SheetError => first | k_is | rfl)
    (case xS_SheetError => k_exc)
    (case hn_g => first | k_is | rfl)
    (case ht_g => first | k_is | rfl)
    (case ga_SheetError => first | k_is | rfl)
    (case gg_SheetError => first | k_is | rfl)
    (case hc_SheetError => first | k_is | rfl)
    (case kC_SheetError => first | k_is | rfl)
    (case eC_SheetError => first | k_is | rfl)
    (case tC_SheetError => first | k_is | rfl)
    (case hD_SheetError => first | k_is | rfl)
    (case iS_SheetError => first | k_is | rfl)
    (case mo_SheetError => first | k_is | rfl)
    (case sv_SheetError => first | k_is | rfl)
    (case aC_InvalidCutting => first | k_is | rfl)
    (case xL_InvalidCutting => first | k_is | rfl)
    (case sa_InvalidCutting => first | k_is | rfl)
    (case nv_InvalidCutting => first | k_is | rfl)
    (case iC_InvalidCutting => first | k_is | rfl)
    (case tI_InvalidCutting => first | k_is | rfl)
    (case l_InvalidCutting => first | k_is | rfl)
    (case c_InvalidCutting => first | k_is | rfl)
    (case kf_InvalidCutting => first | k_is | rfl)
    (case lt_InvalidCutting => first | k_is | rfl)
    (case ss_InvalidCutting => first | k_is | rfl)
    (case sf_InvalidCutting => first | k_is | rfl)
    (case ga_InvalidCutting => first | k_is | rfl)
    (case gg_InvalidCutting => first | k_is | rfl)
    (case hc_InvalidCutting => first | k_is | rfl)
    (case kC_InvalidCutting => first | k_is | rfl)
    (case eC_InvalidCutting => first | k_is | rfl)
    (case tC_InvalidCutting => first | k_is | rfl)
    (case hD_InvalidCutting => first | k_is | rfl)
    (case iS_InvalidCutting => first | k_is | rfl)
    (case mo_InvalidCutting => first | k_is | rfl)
    (case sv_InvalidCutting => first | k_is | rfl)
    (case aC_InvalidList => first | k_is | rfl)
    (case xL_InvalidList => first | k_is | rfl)
    (case sa_InvalidList => first | k_is | rfl)
    (case nv_InvalidList => first | k_is | rfl)
    (case iC_InvalidList => first | k_is | rfl)
    (case tI_InvalidList => first | k_is | rfl)
    (case l_InvalidList => first | k_is | rfl)
    (case c_InvalidList => first | k_is | rfl)
    (case kf_InvalidList => first | k_is | rfl)
    (case lt_InvalidList => first | k_is | rfl)
    (case ss_InvalidList => first | k_is | rfl)
    (case sf_InvalidList => first | k_is | rfl)
    (case ga_InvalidList => first | k_is | rfl)
    (case gg_InvalidList => first | k_is | rfl)
    (case hc_InvalidList => first | k_is | rfl)
    (case kC_InvalidList => first | k_is | rfl)
    (case eC_InvalidList => first | k_is | rfl)
    (case tC_InvalidList => first | k_is | rfl)
    (case hD_InvalidList => first | k_is | rfl)
    (case iS_InvalidList => first | k_is | rfl)
    (case mo_InvalidList => first | k_is | rfl)
    (case sv_InvalidList => first | k_is | rfl)
    (case p_SheetError_SheetError => first | k_is | rfl)
    (case p_InvalidCutting_InvalidCutting => first | k_is | rfl)
    (case p_InvalidCutting_InvalidList => first | k_is | rfl)
    (case p_InvalidList_InvalidCutting => first | k_is | rfl)
    (case p_InvalidList_InvalidList => first | k_is | rfl)
