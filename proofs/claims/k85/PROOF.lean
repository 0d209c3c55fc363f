import PyProof.Rows.All
import Wide.All
import OpenK.AllK
import Wide.FinOn
import KE.KStateDown
import HandS.ForMost
import HandS.Wide
import HandS.Gcd
import HandS.IsInst
import HandS.Defaults
import HandS.Head0
import HandS.Head1
import HandS.Head2
import HandS.Head3
import HandS.HeadEnd
import HandS.HeadHook1
import HandS.HeadHook2
import PyProof.LongRange
import HandS.Conv
import Flt.RightSqrt
import HandS.Flt
import KE.SortData
import HandS.Comp
import HandS.Deep
import HandS.Codes
import HandS.NoneIn
import HandS.Style
import HandS.Iter
import HandS.Flow
import HandS.SortKw
import KE.DatumOrd
import PySem.Challenge.RW_wetmarks_k85_whole_from_when_touches_are
set_option Elab.async false
set_option linter.all false
set_option maxRecDepth 100000
set_option maxHeartbeats 8000000
/-! Own lemmas: how a reading is run from the left, one head at a time. -/
namespace Wm
open PySem PySem.Spec PyProof.Rows L2

/-! ### isqrt -/
def rIsqrt : List V → Hp → VK → Prop := fun vs H Q => ∃ a : Int, vs = [.int a] ∧ 0 ≤ a ∧ a.toNat.log2 ≤ 13000 ∧ Q (.int ((PySem.Float64.isqrt a.toNat : Nat) : Int)) H
theorem cr_isqrt {X : Cx} : CallR X (.builtin "math.isqrt") rIsqrt := by
  intro pins s σ H vs us Q I r h
  obtain ⟨a, rfl, h0, hl, q⟩ := h
  cases r with
  | cons r1 r2 =>
    cases r2
    obtain ⟨t, rfl⟩ := r1
    exact call_function_meets PySem.W.MGF.kind_isqrt PySem.W.MGF.plain_isqrt PySem.W.MGF.entry_isqrt (PySem.W.MGF.args_isqrt _) (PySem.W.mg_run_isqrt a t (by omega) (by omega) (by omega)).meets ⟨.int _, H, I.tok _, ⟨_, rfl⟩, q⟩

/-! ### readings, from the left -/
section
variable {K : PySem.W.Frag} {σ : L2.St} {H : Hp} {Q : VK} {D : Ends} {E : XK} {ta tb tc : TE} {r r' : R2} {t u : TS} {c : TT}
theorem x_seq (h : t { D with nx := u D } σ H) : tSeq t u D σ H := h
theorem x_next (h : D.nx σ H) : tNext D σ H := h
theorem x_drop (h : ta σ H fun _ H1 => D.nx σ H1) : tDrop ta D σ H := h
theorem x_asg {g : TG} (h : ta σ H fun x H1 => g x σ H1 D.nx) : tAsg ta g D σ H := h
theorem x_ret (h : ta σ H D.rt) : tRet ta D σ H := h
theorem x_retN (h : D.rt .non H) : tRetN D σ H := h
theorem x_ifS (h : c σ H fun b H1 => if b = true then t D σ H1 else u D σ H1) : tIfS c t u D σ H := h
theorem x_gName {i : Nat} {v : V} {R : L2.St → Hp → Prop} (h : R (σ.set i (some v)) H) : gName i v σ H R := h
theorem x_var {i : Nat} {v : V} (e : σ[i]? = some (some v)) (h : Q v H) : tVar i σ H Q := ⟨v, e, h⟩
theorem x_c {v : V} (h : Q v H) : tC v σ H Q := h
theorem x_op (h : ta σ H fun x H1 => tb σ H1 fun y H2 => r x y H2 Q) : tOp r ta tb σ H Q := h
theorem x_un {r : V → Hp → VK → Prop} (h : ta σ H fun x H1 => r x H1 Q) : tUn r ta σ H Q := h
theorem x_rI0 {g : Int → Int → V} {i j : Int} (h : Q (g i j) H) : rI0 g (.int i) (.int j) H Q := ⟨i, j, rfl, rfl, h⟩
theorem x_rI {C : Int → Int → Prop} {g : Int → Int → V} {i j : Int} (hc : C i j) (h : Q (g i j) H) : rI C g (.int i) (.int j) H Q := ⟨i, j, rfl, rfl, hc, h⟩
theorem x_rU {g : Int → V} {i : Int} (h : Q (g i) H) : rU g (.int i) H Q := ⟨i, rfl, h⟩
theorem x_rEqI {i j : Int} (h : Q (.bl (decide (i = j))) H) : rEq (.int i) (.int j) H Q := ⟨rfl, by
  have e : decide (V.int i = V.int j) = decide (i = j) := by by_cases x : i = j <;> simp [x]
  rw [e]; exact h⟩
theorem x_rNeI {i j : Int} (h : Q (.bl (!decide (i = j))) H) : rNe (.int i) (.int j) H Q := ⟨rfl, by
  have e : decide (V.int i = V.int j) = decide (i = j) := by by_cases x : i = j <;> simp [x]
  rw [e]; exact h⟩
/-- a value that must be a bool -/
def asB (R : Bool → Hp → Prop) (x : V) (H : Hp) : Prop := ∃ k, x = .bl k ∧ R k H
theorem x_test {R : Bool → Hp → Prop} (h : ta σ H fun x H1 => asB R x H1) : tTest ta σ H R := h
theorem x_B {R : Bool → Hp → Prop} (h : ta σ H fun x H1 => asB R x H1) : tB ta σ H R := h
theorem x_asB {R : Bool → Hp → Prop} {k : Bool} (h : R k H) : asB R (.bl k) H := ⟨k, rfl, h⟩
theorem x_not {R : Bool → Hp → Prop} (h : c σ H fun b H1 => R (!b) H1) : tNot c σ H R := h
theorem x_and {c2 : TT} {R : Bool → Hp → Prop} (h : c σ H fun b H1 => if b = true then c2 σ H1 R else R false H1) : tAnd c c2 σ H R := h
theorem x_or {c2 : TT} {R : Bool → Hp → Prop} (h : c σ H fun b H1 => if b = true then R true H1 else c2 σ H1 R) : tOr c c2 σ H R := h
theorem x_andV (h : ta σ H fun x H1 => asB (fun c H1 => if c = true then tb σ H1 Q else Q (.bl false) H1) x H1) : tAndV ta tb σ H Q := h
theorem x_orV (h : ta σ H fun x H1 => asB (fun c H1 => if c = true then Q (.bl true) H1 else tb σ H1 Q) x H1) : tOrV ta tb σ H Q := h
theorem x_notV (h : ta σ H fun x H1 => asB (fun c H1 => Q (.bl (!c)) H1) x H1) : tNotV ta σ H Q := h
theorem x_tIf (h : c σ H fun b H1 => if b = true then ta σ H1 Q else tb σ H1 Q) : tIf c ta tb σ H Q := h
/-- the second link of a chain -/
def chK (r' : R2) (tc : TE) (σ : L2.St) (y : V) (Q : VK) (z : V) (H : Hp) : Prop := ∃ k, z = .bl k ∧ if k = true then tc σ H fun w H4 => r' y w H4 Q else Q (.bl false) H
theorem x_chain (h : ta σ H fun x H1 => tb σ H1 fun y H2 => r x y H2 fun z H3 => chK r' tc σ y Q z H3) : tChain r r' ta tb tc σ H Q := h
theorem x_chK {y : V} {k : Bool} (h : if k = true then tc σ H fun w H4 => r' y w H4 Q else Q (.bl false) H) : chK r' tc σ y Q (.bl k) H := ⟨k, rfl, h⟩
theorem x_nil {R : List V → Hp → Prop} (h : R [] H) : tNil σ H R := h
theorem x_cons {tr : TA} {R : List V → Hp → Prop} (h : ta σ H fun x H1 => tr σ H1 fun xs H2 => R (x :: xs) H2) : tCons ta tr σ H R := h
theorem x_cb {rr : List V → Hp → VK → Prop} {tA : TA} (h : tA σ H fun vs H1 => rr vs H1 Q) : tCB rr tA σ H Q := h
theorem x_call {sp : Sp} {tA : TA} (h : tA σ H fun vs H1 => sp vs H1 Q E) : tCall sp [] E tA σ H Q := by
  unfold tCall
  simp only [List.append_nil]
  exact h
theorem x_tup {tA : TA} (h : tA σ H fun xs H1 => xs.length ≤ sizeLine ∧ ∀ p, H1 p = none → Q (.ref p) (upd H1 p (.tup xs))) : tTup tA σ H Q := h
theorem x_lst {tA : TA} (h : tA σ H fun xs H1 => xs.length ≤ sizeLine ∧ ∀ p, H1 p = none → Q (.ref p) (upd H1 p (.lst xs))) : tLst tA σ H Q := h
theorem x_size {xs : List V} {A : Prop} (hs : xs.length ≤ 1000) (h : A) : xs.length ≤ sizeLine ∧ A := ⟨Nat.le_trans hs (by decide), h⟩
theorem x_iteT {p A B : Prop} [Decidable p] (hp : p) (h : A) : if decide p = true then A else B := by simp [hp]; exact h
theorem x_iteF {p A B : Prop} [Decidable p] (hp : ¬ p) (h : B) : if decide p = true then A else B := by simp [hp]; exact h
theorem x_iteNT {p A B : Prop} [Decidable p] (hp : ¬ p) (h : A) : if (!decide p) = true then A else B := by simp [hp]; exact h
theorem x_iteNF {p A B : Prop} [Decidable p] (hp : p) (h : B) : if (!decide p) = true then A else B := by simp [hp]; exact h
theorem x_ite {p A B : Prop} [Decidable p] (h1 : p → A) (h2 : ¬ p → B) : if decide p = true then A else B := by
  by_cases hp : p
  · exact x_iteT hp (h1 hp)
  · exact x_iteF hp (h2 hp)
theorem x_iteN {p A B : Prop} [Decidable p] (h1 : ¬ p → A) (h2 : p → B) : if (!decide p) = true then A else B := by
  by_cases hp : p
  · exact x_iteNF hp (h2 hp)
  · exact x_iteNT hp (h1 hp)
theorem x_t {A B : Prop} (h : A) : if true = true then A else B := by simp; exact h
theorem x_f {A B : Prop} (h : B) : if false = true then A else B := by simp; exact h
theorem x_nt {A B : Prop} (h : B) : if (!true) = true then A else B := by simp; exact h
theorem x_nf {A B : Prop} (h : A) : if (!false) = true then A else B := by simp; exact h
end
end Wm
namespace Wm
open PySem PySem.Spec PyProof.Rows L2
/-! ### the head's facts, with names that stand for built-in functions -/
def bfn (K : PySem.W.Frag) (q : Str × String) : Bool := He.eqO (PySem.W.nsIn K mainGlobals q.1) (some (some (.builtin q.2)))
theorem bfn_ok {K : PySem.W.Frag} {h : Heap} {mg : Str → Option Value} (X : K.In h) (G : h.Ns mainGlobals mg) {x : Str} {id : String} (c : bfn K (x, id) = true) : mg x = some (.builtin id) := PySem.W.mg_of X G (He.eqO_ok c)
def obsBG (n : Nat) (fa : List He.Fa) (fn : List He.DefD) (bi : List (Str × String)) (g : Addr → Option Obj) : He.AlD × Bool :=
  (He.obsDG n fa fn g, bi.all (bfn (He.frG g (He.asD g n))))
def hookB (n : Nat) (fa : List He.Fa) (fn : List He.DefD) (bi : List (Str × String)) : PySem.W.Hook where
  α := He.AlD × Bool
  obs := fun s => obsBG n fa fn bi s.heap.get?
  val := fun _ => (He.valD fn, true)
  says := fun _ h => ∃ K : PySem.W.Frag, K.In h ∧ He.SaysD fa fn K ∧ ∀ q ∈ bi, bfn K q = true
  of := fun _ _ e => ⟨_, He.frG_in, congrArg (fun z : He.AlD × Bool => z.1) e, fun q hq => List.all_eq_true.mp (show bi.all _ = true from congrArg (fun z : He.AlD × Bool => z.2) e) q hq⟩
  keeps := fun _ _ _ ⟨K, hK, c⟩ k => ⟨K, PySem.W.Frag.In.keeps hK k, c⟩
theorem obsBG_eq {n : Nat} {fa : List He.Fa} {fn : List He.DefD} {bi : List (Str × String)} {g : Addr → Option Obj} {s : Shared} (h : ∀ a, g a = s.heap.get? a) : obsBG n fa fn bi g = (hookB n fa fn bi).obs s := by
  have e : g = s.heap.get? := funext h
  rw [e] <;> rfl
end Wm
namespace Wm
open PySem PySem.Spec PyProof.Rows L2
theorem nk {CX : CXT} {P : Program} {w : World} {K : PySem.W.Frag} {mg : Str → Option Value} {base : Heap} {N : List Str} {q : Str} {sc : Scope} {f : Addr} {cd : Value} {A : Around} {o : List Env} {s : Shared} {H : Hp} {E : XK} :
    (cxOf CX P w K mg base N q sc f cd A o s H E).nox.K = K := rfl
end Wm

/-! Mathematics of drums: where a turn begins, on which turn a cell lies. -/
namespace Wm
/-- where turn t begins -/
def Bg (f s t : Int) : Int := t * f + s * (t * (t - 1) / 2)
theorem tri2 (t : Int) : 2 * (t * (t - 1) / 2) = t * (t - 1) := by
  have h : t * (t - 1) % 2 = 0 := by
    rcases (by omega : t % 2 = 0 ∨ t % 2 = 1) with h | h
    · rw [Int.mul_emod, h]; simp
    · have : (t - 1) % 2 = 0 := by omega
      rw [Int.mul_emod, this]; simp
  omega
theorem bg2 (f s t : Int) : 2 * Bg f s t = 2 * (t * f) + s * (t * (t - 1)) := by
  unfold Bg
  have h := tri2 t
  generalize t * (t - 1) / 2 = d at *
  grind
theorem bg0 (f s : Int) : Bg f s 0 = 0 := by unfold Bg; simp
theorem bg_succ (f s t : Int) : Bg f s (t + 1) = Bg f s t + (f + t * s) := by
  have h1 := bg2 f s t
  have h2 := bg2 f s (t + 1)
  have e : (t + 1) * (t + 1 - 1) = t * (t - 1) + 2 * t := by grind
  rw [e] at h2
  have : 2 * Bg f s (t + 1) = 2 * (Bg f s t + (f + t * s)) := by
    rw [h2]; grind
  omega
/-- on which turn a cell lies -/
def tOf (f s c : Int) : Int :=
  if s = 0 then c / f else
    (((PySem.Float64.isqrt ((2 * f - s) * (2 * f - s) + 8 * s * c).toNat : Nat) : Int) - (2 * f - s)) / (2 * s)
theorem mul_nn {a b : Int} (ha : 0 ≤ a) (hb : 0 ≤ b) : 0 ≤ a * b := Int.mul_nonneg ha hb
theorem sq_nn (a : Int) : 0 ≤ a * a := by
  rcases Int.le_total 0 a with h | h
  · exact Int.mul_nonneg h h
  · have := Int.mul_nonneg (show 0 ≤ -a by omega) (show 0 ≤ -a by omega)
    grind
theorem isq (n : Int) (h : 0 ≤ n) : ∃ r : Int, r = ((PySem.Float64.isqrt n.toNat : Nat) : Int) ∧ 0 ≤ r ∧ r * r ≤ n ∧ n < (r + 1) * (r + 1) := by
  obtain ⟨h1, h2⟩ := PySem.Float64.isqrt_spec n.toNat
  refine ⟨_, rfl, Int.natCast_nonneg _, ?_, ?_⟩
  · have e : ((n.toNat : Nat) : Int) = n := Int.toNat_of_nonneg h
    rw [← e]
    exact_mod_cast h1
  · have e : ((n.toNat : Nat) : Int) = n := Int.toNat_of_nonneg h
    rw [← e]
    exact_mod_cast h2
theorem sq_le {x r : Int} (h0 : 0 ≤ r) (h : x * x < (r + 1) * (r + 1)) : x ≤ r := by
  apply Classical.byContradiction
  intro c
  have hx : r + 1 ≤ x := by omega
  have := Int.mul_le_mul hx hx (by omega) (by omega)
  omega
theorem le_sq {x r : Int} (h1 : x ≤ r) (h2 : -r ≤ x) (h0 : 0 ≤ r) : x * x ≤ r * r := by
  have a : 0 ≤ r - x := by omega
  have b : 0 ≤ r + x := by omega
  have := mul_nn a b
  grind
/-- a turn from 0 on begins at c or ahead of it just where it is no later than tOf -/
theorem tOf_iff {f s c t : Int} (hf : 1 ≤ f) (hs : 0 ≤ s) (hc : 0 ≤ c) (ht : 0 ≤ t) : Bg f s t ≤ c ↔ t ≤ tOf f s c := by
  unfold tOf
  by_cases h : s = 0
  · rw [if_pos h]
    subst h
    have : Bg f 0 t = t * f := by unfold Bg; simp
    rw [this, Int.le_ediv_iff_mul_le (by omega)]
  · rw [if_neg h]
    have hs1 : 1 ≤ s := by omega
    have hsc : 0 ≤ s * c := mul_nn hs hc
    have hN : 0 ≤ (2 * f - s) * (2 * f - s) + 8 * s * c := by
      have := sq_nn (2 * f - s)
      grind
    obtain ⟨r, hr, r0, r1, r2⟩ := isq _ hN
    rw [← hr]
    have slope_ge : -r ≤ 2 * f - s := by
      have : -(2 * f - s) ≤ r := sq_le r0 (by grind)
      omega
    have slope_le : 2 * f - s ≤ r := sq_le r0 (by grind)
    rw [Int.le_ediv_iff_mul_le (by omega)]
    have key : (2 * s * t + (2 * f - s)) * (2 * s * t + (2 * f - s)) = (2 * f - s) * (2 * f - s) + 8 * s * Bg f s t := by
      have := bg2 f s t
      have e : 8 * s * Bg f s t = 4 * s * (2 * Bg f s t) := by grind
      rw [e, this]
      grind
    have st : 0 ≤ s * t := mul_nn hs ht
    have e8 : ∀ x : Int, 8 * s * x = 8 * (s * x) := fun x => by grind
    constructor
    · intro hb
      have : s * Bg f s t ≤ s * c := Int.mul_le_mul_of_nonneg_left hb hs
      have : 2 * s * t + (2 * f - s) ≤ r := sq_le r0 (by rw [key]; rw [e8] at *; omega)
      grind
    · intro hb
      have h1 : 2 * s * t + (2 * f - s) ≤ r := by grind
      have h2 : -r ≤ 2 * s * t + (2 * f - s) := by grind
      have h3 := le_sq h1 h2 r0
      rw [key] at h3
      rw [e8] at h3
      rw [e8] at r1
      have : s * Bg f s t ≤ s * c := by omega
      exact Int.le_of_mul_le_mul_left this (by omega)
theorem tOf_nn {f s c : Int} (hf : 1 ≤ f) (hs : 0 ≤ s) (hc : 0 ≤ c) : 0 ≤ tOf f s c := (tOf_iff hf hs hc (Int.le_refl 0)).mp (by rw [bg0]; exact hc)
theorem tOf_le {f s c : Int} (hf : 1 ≤ f) (hs : 0 ≤ s) (hc : 0 ≤ c) : Bg f s (tOf f s c) ≤ c := (tOf_iff hf hs hc (tOf_nn hf hs hc)).mpr (Int.le_refl _)
theorem tOf_gt {f s c : Int} (hf : 1 ≤ f) (hs : 0 ≤ s) (hc : 0 ≤ c) : c < Bg f s (tOf f s c) + (f + tOf f s c * s) := by
  rw [← bg_succ]
  have h := tOf_iff hf hs hc (t := tOf f s c + 1) (by have := tOf_nn hf hs hc; omega)
  apply Classical.byContradiction
  intro q
  have := h.mp (by omega)
  omega
theorem tOf_eq {f s c t : Int} (hf : 1 ≤ f) (hs : 0 ≤ s) (ht : 0 ≤ t) (h1 : Bg f s t ≤ c) (h2 : c < Bg f s t + (f + t * s)) (hc : 0 ≤ c) : tOf f s c = t := by
  have a := (tOf_iff hf hs hc ht).mp h1
  rw [← bg_succ] at h2
  have b := tOf_iff hf hs hc (t := t + 1) (by omega)
  have : ¬ t + 1 ≤ tOf f s c := fun q => by have := b.mpr q; omega
  omega
theorem bg_nn {f s t : Int} (hf : 1 ≤ f) (hs : 0 ≤ s) (ht : 0 ≤ t) : t ≤ Bg f s t := by
  have h := bg2 f s t
  have a : t ≤ t * f := by
    have := Int.mul_le_mul_of_nonneg_left hf ht
    omega
  have b : 0 ≤ s * (t * (t - 1)) := by
    apply mul_nn hs
    by_cases z : t = 0
    · subst z; simp
    · exact mul_nn ht (by omega)
  omega
theorem bg_ge {f s t : Int} (hf : 1 ≤ f) (hs : 0 ≤ s) (ht : 0 ≤ t) : 0 ≤ Bg f s t := Int.le_trans ht (bg_nn hf hs ht)
theorem tOf_lec {f s c : Int} (hf : 1 ≤ f) (hs : 0 ≤ s) (hc : 0 ≤ c) : tOf f s c ≤ c := Int.le_trans (bg_nn hf hs (tOf_nn hf hs hc)) (tOf_le hf hs hc)
theorem bg_mono {f s t u : Int} (hf : 1 ≤ f) (hs : 0 ≤ s) (ht : 0 ≤ t) (h : t ≤ u) : Bg f s t ≤ Bg f s u := by
  have hu : 0 ≤ Bg f s u := bg_ge hf hs (by omega)
  have a := (tOf_iff hf hs hu (t := u) (by omega)).mp (Int.le_refl _)
  exact (tOf_iff hf hs hu ht).mpr (by omega)
end Wm

/-! Heaps, sizes, promises. -/
namespace Wm
open PySem PySem.Spec PyProof.Rows L2
/-! ### sizes -/
def Bd (k : Nat) (x : Int) : Prop := x.natAbs < 2 ^ k
theorem Bd.of {k : Nat} {x : Int} (h0 : 0 ≤ x) (h : x < 2 ^ k) : Bd k x := by
  unfold Bd
  have : (x.natAbs : Int) < ((2 ^ k : Nat) : Int) := by
    rw [Int.natAbs_of_nonneg h0]; simpa using h
  exact_mod_cast this
theorem Bd.le {k : Nat} {x y : Int} (h : Bd k y) (h0 : 0 ≤ x) (hx : x ≤ y) : Bd k x := by
  unfold Bd at *; omega
theorem Bd.mono {k l : Nat} {x : Int} (h : Bd k x) (hl : k ≤ l) : Bd l x := Nat.lt_of_lt_of_le h (Nat.pow_le_pow_right (by decide) hl)
theorem Bd.mul {a b : Nat} {x y : Int} (hx : Bd a x) (hy : Bd b y) : Bd (a + b) (x * y) := wide_lt hx hy
theorem Bd.add {a b : Nat} {x y : Int} (hx : Bd a x) (hy : Bd b y) : Bd (a + b + 1) (x + y) := by
  have h1 : Bd (a + b) x := hx.mono (by omega)
  have h2 : Bd (a + b) y := hy.mono (by omega)
  unfold Bd at *
  rw [Nat.pow_succ]
  omega
theorem Bd.sub {a b : Nat} {x y : Int} (hx : Bd a x) (hy : Bd b y) : Bd (a + b + 1) (x - y) := by
  have h1 : Bd (a + b) x := hx.mono (by omega)
  have h2 : Bd (a + b) y := hy.mono (by omega)
  unfold Bd at *
  rw [Nat.pow_succ]
  omega
theorem Bd.div {a : Nat} {x y : Int} (hx : Bd a x) : Bd a (x / y) := by
  unfold Bd at *
  exact Nat.lt_of_le_of_lt (Int.natAbs_ediv_le_natAbs x y) hx
theorem Bd.lit8 {x : Int} (h : x.natAbs < 2 ^ 8) : Bd 8 x := h
theorem Bd.lit {x : Int} (h : x.natAbs < 2 ^ 128) : Bd 128 x := h
theorem cm {a b : Nat} {x y : Int} (hx : Bd a x) (hy : Bd b y) (h : a + b ≤ 900000) : CMulW x y :=
  wide_mul (a := a + 1) (b := b + 1) (hx.mono (by omega)) (hy.mono (by omega)) (by omega) (by omega) (by omega)
theorem cd {b : Nat} {x y : Int} (h0 : 0 < y) (hy : Bd b y) (h : b ≤ 8999) : CDivW x y :=
  wide_div (b := b + 1) h0 (hy.mono (by omega)) (by omega) (by omega)
/-! ### heaps -/
def dfl (f s : Int) : List (Str × V) := putF "_step" (.int s) (putF "_first" (.int f) [])
theorem dfl_first (f s : Int) : (dfl f s).lookup ("_first" : Str) = some (.int f) := by
  unfold dfl
  rw [lookup_putF, if_neg (by decide +kernel), lookup_putF, if_pos rfl]
theorem dfl_step (f s : Int) : (dfl f s).lookup ("_step" : Str) = some (.int s) := by
  unfold dfl
  rw [lookup_putF, if_pos rfl]
theorem dfl_no (f s : Int) {m : Str} (h1 : ¬ m = "_step") (h2 : ¬ m = "_first") : (dfl f s).lookup m = none := by
  unfold dfl
  rw [lookup_putF, if_neg h1, lookup_putF, if_neg h2]
  all_goals rfl
/-- the draws' list -/
def Src (H : Hp) (a : Addr) (n : Int) : Prop := ∃ s0 s1 s2 : Int, H a = some (.lst [.int s0, .int s1, .int s2]) ∧ 0 ≤ s1 ∧ s1 < 2147483647 ∧ 0 ≤ s2 ∧ s2 ≤ n
/-- a drum -/
structure Drm (K : PySem.W.Frag) (H : Hp) (p : Addr) (f s : Int) : Prop where
  ob : ∃ dx, H p = some (.ins (He.ga K "Drum") dx (dfl f s))
  f1 : 1 ≤ f
  f2 : f < 10 ^ 15
  s0 : 0 ≤ s
  s2 : s < 10 ^ 15
theorem Drm.bf {K : PySem.W.Frag} {H : Hp} {p : Addr} {f s : Int} (d : Drm K H p f s) : Bd 50 f := Bd.of (by have := d.f1; omega) (by have := d.f2; omega)
theorem Drm.bs {K : PySem.W.Frag} {H : Hp} {p : Addr} {f s : Int} (d : Drm K H p f s) : Bd 50 s := Bd.of d.s0 (by have := d.s2; omega)
/-- all but what stands at a is as it was -/
def But (a : Addr) (H H' : Hp) : Prop := ∀ b o, b ≠ a → H b = some o → H' b = some o
theorem But.refl (a : Addr) (H : Hp) : But a H H := fun _ _ _ h => h
theorem But.trans {a : Addr} {H H1 H2 : Hp} (h : But a H H1) (k : But a H1 H2) : But a H H2 := fun b o n e => k b o n (h b o n e)
theorem But.of {a : Addr} {H H' : Hp} (h : Same H H') : But a H H' := fun b o _ e => h b o e
theorem same_upd {H : Hp} {q : Addr} {o : HO} (h : H q = none) : Same H (upd H q o) := fun b u e => by
  rw [upd_ne (ne_of_none e h)]; exact e
theorem but_set {a : Addr} {H : Hp} {o : HO} : But a H (upd H a o) := fun b u n e => by
  rw [upd_ne n]; exact e
section
variable {K : PySem.W.Frag} {H H' : Hp} {a p q : Addr} {f s n m : Int} {o u : HO} {xs : List V}
theorem Src.ne (h : Src H a n) (e : H p = some (.ins q m' xs')) : p ≠ a := by
  obtain ⟨_, _, _, e2, _⟩ := h
  exact ne_of e e2 (by intro z; cases z)
theorem Src.neT (h : Src H a n) (e : H p = some (.tup xs)) : p ≠ a := by
  obtain ⟨_, _, _, e2, _⟩ := h
  exact ne_of e e2 (by intro z; cases z)
theorem Src.neN (h : Src H a n) (e : H p = none) : p ≠ a := by
  obtain ⟨_, _, _, e2, _⟩ := h
  exact (ne_of_none e2 e).symm
theorem Src.same (h : Same H H') (x : Src H a n) : Src H' a n := by
  obtain ⟨s0, s1, s2, e2, r⟩ := x
  exact ⟨s0, s1, s2, h _ _ e2, r⟩
theorem Src.upd (h : H q = none) (x : Src H a n) : Src (L2.upd H q o) a n := x.same (same_upd h)
theorem Src.mono (x : Src H a n) (h : n ≤ m) : Src H a m := by
  obtain ⟨s0, s1, s2, e2, a, b, c, d⟩ := x
  exact ⟨s0, s1, s2, e2, a, b, c, by omega⟩
theorem Drm.same (h : Same H H') (x : Drm K H p f s) : Drm K H' p f s := ⟨x.ob.elim fun dx e => ⟨dx, h _ _ e⟩, x.f1, x.f2, x.s0, x.s2⟩
theorem Drm.upd (h : H q = none) (x : Drm K H p f s) : Drm K (L2.upd H q o) p f s := x.same (same_upd h)
theorem Drm.but (h : But a H H') (hs : Src H a n) (x : Drm K H p f s) : Drm K H' p f s := ⟨x.ob.elim fun dx e => ⟨dx, h _ _ (hs.ne e) e⟩, x.f1, x.f2, x.s0, x.s2⟩
theorem at_same (h : Same H H') (x : H p = some o) : H' p = some o := h _ _ x
theorem at_upd (h : H q = none) (x : H p = some o) : L2.upd H q u p = some o := (same_upd h) _ _ x
theorem at_but (h : But a H H') (n : p ≠ a) (x : H p = some o) : H' p = some o := h _ _ n x
theorem tup_but (h : But a H H') (hs : Src H a n) (x : H p = some (.tup xs)) : H' p = some (.tup xs) := h _ _ (hs.neT x) x
end
/-! ### promises of the program -/
section
variable (K : PySem.W.Frag)
def sp_is_whole : Sp := fun vs H Q _ => ∃ n : Int, vs = [.int n] ∧ Q (.bl true) H
def sp_is_from : Sp := fun vs H Q _ => ∃ l n : Int, vs = [.int l, .int n] ∧ Q (.bl (decide (l ≤ n))) H
def sp_is_below : Sp := fun vs H Q _ => ∃ m n : Int, vs = [.int m, .int n] ∧ 0 ≤ n ∧ Q (.bl (decide (n < m))) H
def sp_is_tuple_of : Sp := fun vs H Q _ => ∃ (m : Int) (p : Addr) (xs : List V), vs = [.int m, .ref p] ∧ H p = some (.tup xs) ∧ Q (.bl (decide ((xs.length : Int) = m))) H
def sp_check_turn : Sp := fun vs H Q _ => ∃ n : Int, vs = [.int n] ∧ 0 ≤ n ∧ Q .non H
def sp_check_cell : Sp := fun vs H Q _ => ∃ n : Int, vs = [.int n] ∧ 0 ≤ n ∧ Q .non H
def sp_check_length : Sp := fun vs H Q _ => ∃ n : Int, vs = [.int n] ∧ 1 ≤ n ∧ Q .non H
def sp_check_beats : Sp := fun vs H Q _ => ∃ n : Int, vs = [.int n] ∧ 0 ≤ n ∧ Q .non H
def sp_check_place : Sp := fun vs H Q _ => ∃ m n : Int, vs = [.int m, .int n] ∧ 0 ≤ n ∧ n < m ∧ Q .non H
def sp_check_below : Sp := fun vs H Q _ => ∃ m n : Int, vs = [.int m, .int n] ∧ 0 ≤ n ∧ n < m ∧ Q .non H
def sp_Drumu__initu_ : Sp := fun vs H Q _ => ∃ (p dx : Addr) (f s : Int), vs = [.ref p, .int f, .int s] ∧ H p = some (.ins (He.ga K "Drum") dx []) ∧ 1 ≤ f ∧ f < 10 ^ 15 ∧ 0 ≤ s ∧ s < 10 ^ 15 ∧ Q .non (upd H p (.ins (He.ga K "Drum") dx (dfl f s)))
def sp_Drum_first : Sp := fun vs H Q _ => ∃ (p : Addr) (f s : Int), vs = [.ref p] ∧ Drm K H p f s ∧ Q (.int f) H
def sp_Drum_step : Sp := fun vs H Q _ => ∃ (p : Addr) (f s : Int), vs = [.ref p] ∧ Drm K H p f s ∧ Q (.int s) H
def sp_Drum_size : Sp := fun vs H Q _ => ∃ (p : Addr) (f s t : Int), vs = [.ref p, .int t] ∧ Drm K H p f s ∧ 0 ≤ t ∧ t < 2 ^ 1000 ∧ Q (.int (f + t * s)) H
def sp_Drum_begins : Sp := fun vs H Q _ => ∃ (p : Addr) (f s t : Int), vs = [.ref p, .int t] ∧ Drm K H p f s ∧ 0 ≤ t ∧ t < 2 ^ 1000 ∧ Q (.int (Bg f s t)) H
def sp_Drumu_turn_of : Sp := fun vs H Q _ => ∃ (p : Addr) (f s c : Int), vs = [.ref p, .int c] ∧ Drm K H p f s ∧ 0 ≤ c ∧ c < 2 ^ 1000 ∧ Q (.int (tOf f s c)) H
/-- what where tells -/
def whr (f s c : Int) : List Int := [tOf f s c, c - Bg f s (tOf f s c), f + tOf f s c * s]
def sp_Drum_where : Sp := fun vs H Q _ => ∃ (p : Addr) (f s c : Int), vs = [.ref p, .int c] ∧ Drm K H p f s ∧ 0 ≤ c ∧ c < 2 ^ 1000 ∧
  ∀ (q : Addr) (H' : Hp), Same H H' → H' q = some (.tup ((whr f s c).map V.int)) → Q (.ref q) H'
def sp_Drum_cell_at : Sp := fun vs H Q _ => ∃ (p : Addr) (f s t l : Int), vs = [.ref p, .int t, .int l] ∧ Drm K H p f s ∧ 0 ≤ t ∧ t < 2 ^ 1000 ∧ 0 ≤ l ∧ l < f + t * s ∧ Q (.int (Bg f s t + l)) H
def sp_Drum_filled : Sp := fun vs H Q _ => ∃ (p : Addr) (f s c : Int), vs = [.ref p, .int c] ∧ Drm K H p f s ∧ 1 ≤ c ∧ c < 2 ^ 1000 ∧
  ∀ (q : Addr) (H' : Hp), Same H H' → H' q = some (.tup [.int (tOf f s (c - 1)), .int (c - 1 - Bg f s (tOf f s (c - 1)) + 1)]) → Q (.ref q) H'
/-! ### promises of a law's own draws -/
def sp__law_source_of : Sp := fun vs H Q _ => ∃ c : Int, vs = [.int c] ∧ ∀ (q : Addr) (H' : Hp), H q = none → Same H H' → Src H' q 0 → Q (.ref q) H'
def sp__law_next : Sp := fun vs H Q _ => ∃ (a : Addr) (n m : Int), vs = [.ref a, .int m] ∧ Src H a n ∧ n < 2 ^ 50 ∧ 0 < m ∧ m < 2 ^ 4000 ∧
  ∀ (r : Int) (H' : Hp), 0 ≤ r → r < m → Src H' a (n + 1) → But a H H' → Q (.int r) H'
def sp__law_one : Sp := fun vs H Q _ => ∃ (a p : Addr) (n : Int) (xs : List V), vs = [.ref a, .ref p] ∧ Src H a n ∧ n < 2 ^ 50 ∧ H p = some (.lst xs) ∧ p ≠ a ∧ 0 < xs.length ∧ xs.length < 1000 ∧
  ∀ (v : V) (H' : Hp), v ∈ xs → Src H' a (n + 1) → But a H H' → Q v H'
def sp__law_cell_at : Sp := fun vs H Q _ => ∃ (a : Addr) (ns : List Int) (k : Int), vs = [.ref a, .int k] ∧ SqL K H a (ns.map V.int) ∧ ns.length ≤ 63 ∧ 0 ≤ k ∧ ∀ r : Int, Q (.int r) H
def sp_law : Sp := fun vs H Q _ => ∃ (a : Addr) (ns : List Int), vs = [.ref a] ∧ SqL K H a (ns.map V.int) ∧ ns.length ≤ 63 ∧ ∀ H', Q (.bl true) H'
end
/-! ### readings of calls -/
section
variable {K : PySem.W.Frag} {σ : L2.St} {H : Hp} {Q : VK} {E : XK} {p a q : Addr} {f s t c l n m : Int}
theorem y_whole (h : Q (.bl true) H) : sp_is_whole [.int n] H Q E := ⟨n, rfl, h⟩
theorem y_from (h : Q (.bl (decide (l ≤ n))) H) : sp_is_from [.int l, .int n] H Q E := ⟨l, n, rfl, h⟩
theorem y_below (h0 : 0 ≤ n) (h : Q (.bl (decide (n < m))) H) : sp_is_below [.int m, .int n] H Q E := ⟨m, n, rfl, h0, h⟩
theorem y_tuple_of {xs : List V} (e : H p = some (.tup xs)) (h : Q (.bl (decide ((xs.length : Int) = m))) H) : sp_is_tuple_of [.int m, .ref p] H Q E := ⟨m, p, xs, rfl, e, h⟩
theorem y_cturn (h0 : 0 ≤ n) (h : Q .non H) : sp_check_turn [.int n] H Q E := ⟨n, rfl, h0, h⟩
theorem y_ccell (h0 : 0 ≤ n) (h : Q .non H) : sp_check_cell [.int n] H Q E := ⟨n, rfl, h0, h⟩
theorem y_clen (h0 : 1 ≤ n) (h : Q .non H) : sp_check_length [.int n] H Q E := ⟨n, rfl, h0, h⟩
theorem y_cbeats (h0 : 0 ≤ n) (h : Q .non H) : sp_check_beats [.int n] H Q E := ⟨n, rfl, h0, h⟩
theorem y_cplace (h0 : 0 ≤ n) (h1 : n < m) (h : Q .non H) : sp_check_place [.int m, .int n] H Q E := ⟨m, n, rfl, h0, h1, h⟩
theorem y_cbelow (h0 : 0 ≤ n) (h1 : n < m) (h : Q .non H) : sp_check_below [.int m, .int n] H Q E := ⟨m, n, rfl, h0, h1, h⟩
theorem y_first (d : Drm K H p f s) (h : Q (.int f) H) : sp_Drum_first K [.ref p] H Q E := ⟨p, f, s, rfl, d, h⟩
theorem y_step (d : Drm K H p f s) (h : Q (.int s) H) : sp_Drum_step K [.ref p] H Q E := ⟨p, f, s, rfl, d, h⟩
theorem y_size (d : Drm K H p f s) (h0 : 0 ≤ t) (h1 : t < 2 ^ 1000) (h : Q (.int (f + t * s)) H) : sp_Drum_size K [.ref p, .int t] H Q E := ⟨p, f, s, t, rfl, d, h0, h1, h⟩
theorem y_begins (d : Drm K H p f s) (h0 : 0 ≤ t) (h1 : t < 2 ^ 1000) (h : Q (.int (Bg f s t)) H) : sp_Drum_begins K [.ref p, .int t] H Q E := ⟨p, f, s, t, rfl, d, h0, h1, h⟩
theorem y_turn_of (d : Drm K H p f s) (h0 : 0 ≤ c) (h1 : c < 2 ^ 1000) (h : Q (.int (tOf f s c)) H) : sp_Drumu_turn_of K [.ref p, .int c] H Q E := ⟨p, f, s, c, rfl, d, h0, h1, h⟩
theorem y_where (d : Drm K H p f s) (h0 : 0 ≤ c) (h1 : c < 2 ^ 1000) (h : ∀ (q : Addr) (H' : Hp), Same H H' → H' q = some (.tup [.int (tOf f s c), .int (c - Bg f s (tOf f s c)), .int (f + tOf f s c * s)]) → Q (.ref q) H') : sp_Drum_where K [.ref p, .int c] H Q E := ⟨p, f, s, c, rfl, d, h0, h1, h⟩
theorem y_cell_at (d : Drm K H p f s) (h0 : 0 ≤ t) (h1 : t < 2 ^ 1000) (h2 : 0 ≤ l) (h3 : l < f + t * s) (h : Q (.int (Bg f s t + l)) H) : sp_Drum_cell_at K [.ref p, .int t, .int l] H Q E := ⟨p, f, s, t, l, rfl, d, h0, h1, h2, h3, h⟩
theorem y_filled (d : Drm K H p f s) (h0 : 1 ≤ c) (h1 : c < 2 ^ 1000) (h : ∀ (q : Addr) (H' : Hp), Same H H' → H' q = some (.tup [.int (tOf f s (c - 1)), .int (c - 1 - Bg f s (tOf f s (c - 1)) + 1)]) → Q (.ref q) H') : sp_Drum_filled K [.ref p, .int c] H Q E := ⟨p, f, s, c, rfl, d, h0, h1, h⟩
theorem y_source_of (h : ∀ (q : Addr) (H' : Hp), H q = none → Same H H' → Src H' q 0 → Q (.ref q) H') : sp__law_source_of [.int c] H Q E := ⟨c, rfl, h⟩
theorem y_next (hs : Src H a n) (hn : n < 2 ^ 50) (h0 : 0 < m) (h1 : m < 2 ^ 4000) (h : ∀ (r : Int) (H' : Hp), 0 ≤ r → r < m → Src H' a (n + 1) → But a H H' → Q (.int r) H') : sp__law_next [.ref a, .int m] H Q E := ⟨a, n, m, rfl, hs, hn, h0, h1, h⟩
theorem y_one {xs : List V} (hs : Src H a n) (hn : n < 2 ^ 50) (hp : H p = some (.lst xs)) (hne : p ≠ a) (h0 : 0 < xs.length) (h1 : xs.length < 1000) (h : ∀ (v : V) (H' : Hp), v ∈ xs → Src H' a (n + 1) → But a H H' → Q v H') : sp__law_one [.ref a, .ref p] H Q E := ⟨a, p, n, xs, rfl, hs, hn, hp, hne, h0, h1, h⟩
theorem y_law_cell_at {ns : List Int} (hs : SqL K H a (ns.map V.int)) (hl : ns.length ≤ 63) (h0 : 0 ≤ n) (h : ∀ r : Int, Q (.int r) H) : sp__law_cell_at K [.ref a, .int n] H Q E := ⟨a, ns, n, rfl, hs, hl, h0, h⟩
/-- a method of a drum: its arguments first -/
def methK (C : Addr) (m : Str) (sp : Sp) (E : XK) (tA : TA) (σ : L2.St) (Q : VK) (x : V) (H : Hp) : Prop := ∃ a dx fs, x = .ref a ∧ H a = some (.ins C dx fs) ∧ fs.lookup m = none ∧ tA σ H fun vs H2 => sp (x :: vs) H2 Q E
theorem x_meth {C : Addr} {m : Str} {sp : Sp} {ta : TE} {tA : TA} (h : ta σ H fun x H1 => methK C m sp E tA σ Q x H1) : tMeth C m sp [] E ta tA σ H Q := by
  unfold tMeth
  simp only [List.append_nil]
  exact h
theorem x_methD {m : Str} {sp : Sp} {tA : TA} (d : Drm K H p f s) (h1 : (¬ m = "_step") ∧ ¬ m = "_first") (h : tA σ H fun vs H2 => sp (.ref p :: vs) H2 Q E) : methK (He.ga K "Drum") m sp E tA σ Q (.ref p) H := by
  obtain ⟨dx, e⟩ := d.ob
  exact ⟨p, dx, _, rfl, e, dfl_no _ _ h1.1 h1.2, h⟩
theorem nm_where : (¬ ("where" : Str) = "_step") ∧ ¬ ("where" : Str) = "_first" := ⟨by decide +kernel, by decide +kernel⟩
theorem nm_size : (¬ ("size" : Str) = "_step") ∧ ¬ ("size" : Str) = "_first" := ⟨by decide +kernel, by decide +kernel⟩
theorem nm_begins : (¬ ("begins" : Str) = "_step") ∧ ¬ ("begins" : Str) = "_first" := ⟨by decide +kernel, by decide +kernel⟩
theorem nm_first : (¬ ("first" : Str) = "_step") ∧ ¬ ("first" : Str) = "_first" := ⟨by decide +kernel, by decide +kernel⟩
theorem nm_step : (¬ ("step" : Str) = "_step") ∧ ¬ ("step" : Str) = "_first" := ⟨by decide +kernel, by decide +kernel⟩
theorem nm_cell_at : (¬ ("cell_at" : Str) = "_step") ∧ ¬ ("cell_at" : Str) = "_first" := ⟨by decide +kernel, by decide +kernel⟩
theorem nm_filled : (¬ ("filled" : Str) = "_step") ∧ ¬ ("filled" : Str) = "_first" := ⟨by decide +kernel, by decide +kernel⟩
theorem nm_turn_of : (¬ ("_turn_of" : Str) = "_step") ∧ ¬ ("_turn_of" : Str) = "_first" := ⟨by decide +kernel, by decide +kernel⟩
/-- a field of a drum -/
def fldK (K : PySem.W.Frag) (f : Str) (Q : VK) (x : V) (H : Hp) : Prop := ∃ a C dx fs v, x = .ref a ∧ H a = some (.ins C dx fs) ∧ Cls K C ∧ NoAttr K C f ∧ fs.lookup f = some v ∧ Q v H
theorem x_fld {g : Str} {ta : TE} (h : ta σ H fun x H1 => fldK K g Q x H1) : tFld K ta g σ H Q := h
theorem x_fst (cl : Cls K (He.ga K "Drum")) (na : NoAttr K (He.ga K "Drum") "_first") (d : Drm K H p f s) (h : Q (.int f) H) : fldK K "_first" Q (.ref p) H := by
  obtain ⟨dx, e⟩ := d.ob
  exact ⟨p, _, dx, _, _, rfl, e, cl, na, dfl_first _ _, h⟩
theorem x_stp (cl : Cls K (He.ga K "Drum")) (na : NoAttr K (He.ga K "Drum") "_step") (d : Drm K H p f s) (h : Q (.int s) H) : fldK K "_step" Q (.ref p) H := by
  obtain ⟨dx, e⟩ := d.ob
  exact ⟨p, _, dx, _, _, rfl, e, cl, na, dfl_step _ _, h⟩
/-- Drum(first, step) -/
def mkP (K : PySem.W.Frag) (Q : VK) (E : XK) (vs : List V) (H1 : Hp) : Prop := ∀ x dx, H1 x = none → H1 dx = none → dx ≠ x →
  sp_Drumu__initu_ K (.ref x :: vs) (upd (upd H1 dx (.own x)) x (.ins (He.ga K "Drum") dx [])) (fun v H2 => v = .non ∧ Q (.ref x) H2) E
theorem x_make {tA : TA} (h : tA σ H fun vs H1 => mkP K Q E vs H1) : tMake (He.ga K "Drum") (sp_Drumu__initu_ K) [] E tA σ H Q := by
  unfold tMake
  simp only [List.append_nil]
  exact h
theorem x_mkP (f1 : 1 ≤ f) (f2 : f < 10 ^ 15) (s1 : 0 ≤ s) (s2 : s < 10 ^ 15) (k : ∀ (x : Addr) (H' : Hp), H x = none → Same H H' → Drm K H' x f s → Q (.ref x) H') : mkP K Q E [.int f, .int s] H := by
  intro x dx hx hd hne
  refine ⟨x, dx, f, s, rfl, upd_same, f1, f2, s1, s2, rfl, ?_⟩
  rw [upd_upd]
  refine k x _ hx (fun b o e => ?_) ⟨⟨dx, upd_same⟩, f1, f2, s1, s2⟩
  rw [upd_ne (ne_of_none e hx), upd_ne (ne_of_none e hd)]
  exact e
end
end Wm
namespace Wm
open PySem PySem.Spec PyProof.Rows L2
def rLn (K : PySem.W.Frag) : List V → Hp → VK → Prop := fun xs H Q => ∃ x n, xs = [x] ∧ LenV K x H n ∧ Q (.int n) H
theorem cl_len {X : Cx} : CallR X (.builtin "len") (rLn X.K) := call_len
def rMx : List V → Hp → VK → Prop := fun xs H Q => ∃ i j, xs = [.int i, .int j] ∧ Q (.int (if j > i then j else i)) H
theorem cl_max {X : Cx} (hc : X.calm = true) : CallR X (.builtin "max") rMx := call_max2 hc
def rMn : List V → Hp → VK → Prop := fun xs H Q => ∃ i j, xs = [.int i, .int j] ∧ Q (.int (if j < i then j else i)) H
theorem cl_min {X : Cx} (hc : X.calm = true) : CallR X (.builtin "min") rMn := call_min2 hc
def rIn1 : List V → Hp → VK → Prop := fun xs H Q => (∃ i, xs = [.int i] ∧ Q (.int i) H) ∨ ∃ k, xs = [.bl k] ∧ Q (.int (if k then 1 else 0)) H
theorem cl_int {X : Cx} : CallR X (.type "int") rIn1 := call_int1
section
variable {K : PySem.W.Frag} {σ σ' : L2.St} {H : Hp} {Q : VK} {E : XK} {D : Ends} {p a q : Addr} {xs ys : List V} {v w x : V} {R : L2.St → Hp → Prop}
theorem x_set {i : Nat} (e : σ.set i (some v) = σ') (h : R σ' H) : gName i v σ H R := by subst e; exact h
theorem x_gTup {n : Nat} {t : TGs} (e : H a = some (.tup xs)) (l : xs.length = n) (h : t xs σ H R) : gTup K n t (.ref a) σ H R := ⟨a, xs, rfl, .inl (.inl e), l, h⟩
theorem x_gCons {t : TG} {u : TGs} {r : List V} (h : t v σ H fun σ' H' => u r σ' H' R) : gCons t u (v :: r) σ H R := ⟨v, r, rfl, h⟩
theorem x_gNil (h : R σ H) : gNil [] σ H R := ⟨rfl, h⟩
theorem x_gSub {to ti : TE} {t : TSet} (h : to σ H fun o H1 => ti σ H1 fun i H2 => t o i v H2 fun H3 => R σ H3) : gSub to ti t v σ H R := h
theorem x_setL {k : Int} {j : Nat} {R : Hp → Prop} (e : H p = some (.lst xs)) (i : ixN xs.length k = some j) (h : R (upd H p (.lst (xs.set j v)))) : rSetL (.ref p) (.int k) v H R := ⟨p, xs, k, j, rfl, rfl, e, i, h⟩
theorem x_ixL {k : Int} (e : SqL K H p xs) (i : atI xs k = some v) (h : Q v H) : rIxL K (.ref p) (.int k) H Q := ⟨p, xs, k, v, rfl, rfl, e, i, h⟩
theorem x_ixT {k : Int} (e : H p = some (.tup xs)) (i : atI xs k = some v) (h : Q v H) : rIxT K (.ref p) (.int k) H Q := ⟨p, xs, k, v, rfl, rfl, .inl (.inl e), i, h⟩
theorem sql {xs : List V} (e : H p = some (.lst xs)) : SqL K H p xs := .inl (.inl e)
theorem x_parK {i j : Nat} {tA : TA} (h : tA σ H fun vs H1 => ∃ v w, vs = [v, w] ∧ D.nx ((σ.set i (some v)).set j (some w)) H1) : tPar i j tA D σ H := h
theorem x_par2 {i j : Nat} (e : (σ.set i (some v)).set j (some w) = σ') (h : R σ' H) : ∃ v' w', [v, w] = [v', w'] ∧ R ((σ.set i (some v')).set j (some w')) H := ⟨v, w, rfl, by rw [e]; exact h⟩
/-- len of a list, a tuple -/
theorem x_lenL (e : SqL K H p xs) (h : Q (.int xs.length) H) : rLn K [.ref p] H Q := ⟨_, _, rfl, .inl ⟨_, e, rfl⟩, h⟩
theorem x_lenT (e : H p = some (.tup xs)) (h : Q (.int xs.length) H) : rLn K [.ref p] H Q := ⟨_, _, rfl, .inr ⟨_, .inl (.inl e), rfl⟩, h⟩
theorem x_max {i j : Int} (h : Q (.int (max i j)) H) : rMx [.int i, .int j] H Q := ⟨i, j, rfl, by
  have e : (if j > i then j else i) = max i j := by split <;> omega
  rw [e]; exact h⟩
theorem x_min {i j : Int} (h : Q (.int (min i j)) H) : rMn [.int i, .int j] H Q := ⟨i, j, rfl, by
  have e : (if j < i then j else i) = min i j := by split <;> omega
  rw [e]; exact h⟩
theorem x_intB {k : Bool} (h : Q (.int (if k = true then 1 else 0)) H) : rIn1 [.bl k] H Q := .inr ⟨k, rfl, h⟩
theorem x_isqrt {i : Int} (h0 : 0 ≤ i) (hl : Bd 12000 i) (h : Q (.int ((PySem.Float64.isqrt i.toNat : Nat) : Int)) H) : rIsqrt [.int i] H Q := ⟨i, rfl, h0, by
  have : i.toNat.log2 < 12000 := PySem.Flt.log2_lt_of (by decide) (by unfold Bd at hl; omega)
  omega, h⟩
theorem x_gcd {i j : Int} (h : Q (.int ((Nat.gcd i.natAbs j.natAbs : Nat) : Int)) H) : rGcd [.int i, .int j] H Q := ⟨i, j, rfl, h⟩
theorem x_isi {i : Int} {T : String} {b : Bool} (e : kitB "int" T = some b) (h : Q (.bl b) H) : rIsi K [.int i, .ty T] H Q := ⟨_, _, _, _, b, rfl, .ty T, .base (.int i), kit_ty e, h⟩
theorem x_isiT {T : String} {b : Bool} (ht : H p = some (.tup xs)) (e : kitB "tuple" T = some b) (h : Q (.bl b) H) : rIsi K [.ref p, .ty T] H Q := ⟨_, _, _, _, b, rfl, .ty T, .base (.tup ht), kit_ty e, h⟩
/-- tuples of ints, not the same -/
theorem dpAll_ints : ∀ ns : List Int, DpAll K H (ns.map V.int) (ns.map PyData.int)
  | [] => .nil
  | n :: r => .cons (.int n) (dpAll_ints r)
theorem eqvAll_ints : ∀ ns ms : List Int, PyData.eqvAll (ns.map PyData.int) (ms.map PyData.int) = decide (ns = ms)
  | [], [] => by simp [PyData.eqvAll]
  | [], _ :: _ => by simp [PyData.eqvAll]
  | _ :: _, [] => by simp [PyData.eqvAll]
  | n :: r, m :: t => by
    have h := eqvAll_ints r t
    simp only [List.map_cons, PyData.eqvAll, PyData.eqv, h]
    by_cases c : n = m <;> by_cases d : r = t <;> simp [c, d]
end
end Wm
namespace Wm
open PySem PySem.Spec PyProof.Rows L2
theorem canLayAll_ints : ∀ ns : List Int, PyData.canLayAll0 (ns.map PyData.int) = true
  | [] => by simp [PyData.canLayAll0]
  | n :: r => by simp [PyData.canLayAll0, PyData.canLay0, canLayAll_ints r]
theorem depthAll_ints : ∀ ns : List Int, PyData.depthAll (ns.map PyData.int) = 0
  | [] => by simp [PyData.depthAll]
  | n :: r => by simp [PyData.depthAll, PyData.depth, depthAll_ints r]
theorem shaped_ints (ns : List Int) (h : ns.length ≤ 100000) : SeqAt.shaped (.tuple (ns.map PyData.int)) = true := by
  unfold SeqAt.shaped
  have h1 : PyData.canLay0 (.tuple (ns.map PyData.int)) = true := by
    unfold PyData.canLay0
    simp [canLayAll_ints]
  have h2 : PyData.depth (.tuple (ns.map PyData.int)) = 1 := by
    unfold PyData.depth
    simp [depthAll_ints]
  rw [h1, h2]
  decide
section
variable {K : PySem.W.Frag} {H : Hp} {Q : VK} {p q : Addr} {ns ms : List Int}
theorem x_neT (hp : H p = some (.tup (ns.map V.int))) (hq : H q = some (.tup (ms.map V.int))) (l1 : ns.length ≤ 100000) (l2 : ms.length ≤ 100000) (h : Q (.bl (!decide (ns = ms))) H) : rNeD K (.ref p) (.ref q) H Q :=
  ⟨_, _, .tup (.inl (.inl hp)) (dpAll_ints ns), .tup (.inl (.inl hq)) (dpAll_ints ms), shaped_ints ns l1, shaped_ints ms l2, by
    have e : PyData.eqv (.tuple (ns.map PyData.int)) (.tuple (ms.map PyData.int)) = decide (ns = ms) := by
      rw [PyData.eqv, eqvAll_ints]
    rw [e]; exact h⟩
theorem x_eqT (hp : H p = some (.tup (ns.map V.int))) (hq : H q = some (.tup (ms.map V.int))) (l1 : ns.length ≤ 100000) (l2 : ms.length ≤ 100000) (h : Q (.bl (decide (ns = ms))) H) : rEqD K (.ref p) (.ref q) H Q :=
  ⟨_, _, .tup (.inl (.inl hp)) (dpAll_ints ns), .tup (.inl (.inl hq)) (dpAll_ints ms), shaped_ints ns l1, shaped_ints ms l2, by
    have e : PyData.eqv (.tuple (ns.map PyData.int)) (.tuple (ms.map PyData.int)) = decide (ns = ms) := by
      rw [PyData.eqv, eqvAll_ints]
    rw [e]; exact h⟩
end
end Wm

namespace Wm
open PySem PySem.Spec PyProof.Rows L2
theorem atI_in {xs : List V} {r : Int} (h0 : 0 ≤ r) (h1 : r < xs.length) : ∃ v, v ∈ xs ∧ atI xs r = some v := by
  obtain ⟨n, rfl⟩ := Int.eq_ofNat_of_zero_le h0
  have hl : n < xs.length := by omega
  exact ⟨xs[n], List.getElem_mem _, atI_nat (List.getElem?_eq_getElem hl)⟩
theorem SqL_but {K : PySem.W.Frag} {H H' : Hp} {a p : Addr} {xs : List V} (n : p ≠ a) (h : But a H H') (x : SqL K H p xs) : SqL K H' p xs := by
  rcases x with (e | ⟨o, e⟩) | e
  · exact .inl (.inl (h _ _ n e))
  · exact .inl (.inr ⟨o, h _ _ n e⟩)
  · exact .inr e
end Wm
namespace Wm
open PySem PySem.Spec PyProof.Rows L2
section
variable {X : Cx} {K : PySem.W.Frag} {σ : L2.St} {H : Hp} {Q : VK} {D : Ends} {p a q : Addr} {xs zs : List V}
/-- a written power -/
theorem pe_pw {i j r : Int} {k1 k2 : Nat} {p1 p2 pos : Pos} (hc : CPow i j) (e : i ^ j.toNat = r) : PE X (.BinOp (.Constant (.int i) k1 p1) .Pow (.Constant (.int j) k2 p2) pos) (tC (.int r)) :=
  ⟨fun pins s σ H Q I h => (pe_op op_pow pe_int pe_int).run pins s σ H Q I ⟨i, j, rfl, rfl, hc, by show Q (.int (i ^ j.toNat)) H; rw [e]; exact h⟩⟩
theorem x_cat (h1 : H p = some (.lst xs)) (h2 : H q = some (.lst zs)) (l : xs.length + zs.length ≤ sizeLine) (h : ∀ r, H r = none → Q (.ref r) (upd H r (.lst (xs ++ zs)))) : rCat (.ref p) (.ref q) H Q := ⟨p, q, xs, zs, rfl, rfl, h1, h2, l, h⟩
theorem x_sl {r : V → Option Int → Option Int → Hp → VK → Prop} {te : TE} {tl th : TO} (h : te σ H fun x H1 => tl σ H1 fun l H2 => th σ H2 fun u H3 => r x l u H3 Q) : tSl r te tl th σ H Q := h
theorem x_noPart {R : Option Int → Hp → Prop} (h : R none H) : tNoPart σ H R := h
def asI (R : Option Int → Hp → Prop) (x : V) (H : Hp) : Prop := ∃ i, x = .int i ∧ R (some i) H
theorem x_part {t : TE} {R : Option Int → Hp → Prop} (h : t σ H fun x H1 => asI R x H1) : tPart t σ H R := h
theorem x_asI {i : Int} {R : Option Int → Hp → Prop} (h : R (some i) H) : asI R (.int i) H := ⟨i, rfl, h⟩
theorem x_slL {lo hi : Option Int} (e : SqL K H p xs) (h : ∀ r, H r = none → Q (.ref r) (upd H r (.lst (cutV xs lo hi)))) : rSlL K (.ref p) lo hi H Q := ⟨p, xs, rfl, e, h⟩
theorem cut_in {xs : List V} {lo hi : Option Int} {v : V} (h : v ∈ cutV xs lo hi) : v ∈ xs := by
  unfold cutV at h
  exact List.mem_of_mem_drop (List.mem_of_mem_take h)
/-- a for over a list -/
def forK (K : PySem.W.Frag) (g : TG) (tb : TS) (D : Ends) (σ : L2.St) (x : V) (H : Hp) : Prop := ∃ a, x = .ref a ∧ (∃ xs, SqL K H a xs) ∧ ∃ W : Nat → Nat → L2.St → Hp → Prop, (∃ m, W 0 m σ H) ∧ ∀ i m σ H, W i m σ H →
      ((Itl K a).stop i H ∧ D.nx σ H) ∨ ((Itl K a).go i H ∧ ∃ N : L2.St → Hp → Prop, (∀ σ' H', N σ' H' → ∃ m', m' < m ∧ W (i + 1) m' σ' H') ∧ ∀ x H', (Itl K a).yld i H x H' → g x σ H' fun σ2 H2 => tb { D with nx := N, ct := N, bk := D.nx } σ2 H2)
theorem x_for {tl : TE} {g : TG} {tb : TS} (h : tl σ H fun x H1 => forK K g tb D σ x H1) : tFor (iList K tl) g tb D σ H := h
theorem x_forL {g : TG} {tb : TS} (e : H p = some (.lst xs)) (I : Nat → L2.St → Hp → Prop) (h0 : I 0 σ H)
    (hs : ∀ i x σ H, xs[i]? = some x → I i σ H → H p = some (.lst xs) → g x σ H fun σ2 H2 => tb { D with nx := fun σ H => I (i + 1) σ H ∧ H p = some (.lst xs), ct := fun σ H => I (i + 1) σ H ∧ H p = some (.lst xs), bk := D.nx } σ2 H2)
    (hd : ∀ σ H, I xs.length σ H → D.nx σ H) : forK K g tb D σ (.ref p) H :=
  ⟨p, rfl, ⟨_, sql e⟩, for_list (K := K) (a := p) (xs := xs) (fun i σ H => I i σ H ∧ H p = some (.lst xs)) ⟨h0, e⟩ (fun _ _ _ _ q => sql q.2) (fun i x σ H hi q => hs i x σ H hi q.1 q.2) (fun σ H q => hd σ H q.1)⟩
end
/-- the cells of a law -/
theorem cells_int {ns : List Int} {r : Int} {lo hi : Option Int} {x : V} (h : x ∈ [V.int r] ++ cutV (ns.map V.int) lo hi) : ∃ z, x = .int z := by
  rcases List.mem_append.mp h with h | h
  · exact ⟨r, by simpa using h⟩
  · obtain ⟨z, _, e⟩ := List.mem_map.mp (cut_in h)
    exact ⟨z, e.symm⟩
theorem cells_len {ns : List Int} {r : Int} {lo hi : Option Int} (h : ns.length ≤ 63) : ([V.int r]).length + (cutV (ns.map V.int) lo hi).length ≤ sizeLine := by
  have := cutV_length (ns.map V.int) lo hi
  rw [List.length_map] at this
  have : ([V.int r]).length = 1 := rfl
  have : 1000 ≤ sizeLine := by decide
  omega
end Wm

namespace Wm
open PySem PySem.Spec PyProof.Rows L2
section
variable {K : PySem.W.Frag} {H : Hp} {Q : VK} {p q : Addr} {a b c a' b' c' : Int}
theorem x_neT3 (hp : H p = some (.tup [.int a, .int b, .int c])) (hq : H q = some (.tup [.int a', .int b', .int c'])) (h : Q (.bl (!decide (a = a' ∧ b = b' ∧ c = c'))) H) : rNeD K (.ref p) (.ref q) H Q :=
  x_neT (ns := [a, b, c]) (ms := [a', b', c']) hp hq (Nat.le_of_ble_eq_true rfl) (Nat.le_of_ble_eq_true rfl) (by
    have e : decide ([a, b, c] = [a', b', c']) = decide (a = a' ∧ b = b' ∧ c = c') := by simp
    rw [e]; exact h)
theorem x_neT2 (hp : H p = some (.tup [.int a, .int b])) (hq : H q = some (.tup [.int a', .int b'])) (h : Q (.bl (!decide (a = a' ∧ b = b'))) H) : rNeD K (.ref p) (.ref q) H Q :=
  x_neT (ns := [a, b]) (ms := [a', b']) hp hq (Nat.le_of_ble_eq_true rfl) (Nat.le_of_ble_eq_true rfl) (by
    have e : decide ([a, b] = [a', b']) = decide (a = a' ∧ b = b') := by simp
    rw [e]; exact h)
theorem x_eqT3 (hp : H p = some (.tup [.int a, .int b, .int c])) (hq : H q = some (.tup [.int a', .int b', .int c'])) (h : Q (.bl (decide (a = a' ∧ b = b' ∧ c = c'))) H) : rEqD K (.ref p) (.ref q) H Q :=
  x_eqT (ns := [a, b, c]) (ms := [a', b', c']) hp hq (Nat.le_of_ble_eq_true rfl) (Nat.le_of_ble_eq_true rfl) (by
    have e : decide ([a, b, c] = [a', b', c']) = decide (a = a' ∧ b = b' ∧ c = c') := by simp
    rw [e]; exact h)
theorem x_eqT2 (hp : H p = some (.tup [.int a, .int b])) (hq : H q = some (.tup [.int a', .int b'])) (h : Q (.bl (decide (a = a' ∧ b = b'))) H) : rEqD K (.ref p) (.ref q) H Q :=
  x_eqT (ns := [a, b]) (ms := [a', b']) hp hq (Nat.le_of_ble_eq_true rfl) (Nat.le_of_ble_eq_true rfl) (by
    have e : decide ([a, b] = [a', b']) = decide (a = a' ∧ b = b') := by simp
    rw [e]; exact h)
end
theorem mul_bd {a b A B : Int} (a0 : 0 ≤ a) (aA : a ≤ A) (b0 : 0 ≤ b) (bB : b ≤ B) : 0 ≤ a * b ∧ a * b ≤ A * B :=
  ⟨Int.mul_nonneg a0 b0, Int.mul_le_mul aA bB b0 (by omega)⟩
theorem mul_ge1 {a b : Int} (a0 : 1 ≤ a) (b0 : 1 ≤ b) : 1 ≤ a * b := by
  have := Int.mul_le_mul a0 b0 (by decide) (by omega)
  omega
end Wm
namespace Wm
open PySem PySem.Spec PyProof.Rows L2
theorem x_cut2 {K : PySem.W.Frag} {H : Hp} {Q : VK} {p : Addr} {x y z : V} (e : H p = some (.tup [x, y, z])) (h : ∀ r, H r = none → Q (.ref r) (upd H r (.tup [x, y]))) : rSlT K (.ref p) none (some 2) H Q :=
  ⟨p, _, rfl, .inl (.inl e), (by show ¬ (HT.sIx 3 0 none = 0 ∧ HT.sIx 3 3 (some 2) = 3); decide), fun r hr => h r hr⟩
end Wm

/-! Calls with keywords: a method's, a function's. -/
namespace Wm
open PySem PySem.Spec PyProof.Rows L2
theorem kbn {K : PySem.W.Frag} {x qual : Str} {params : Arguments} {body : List Stmt} {scope : Scope} {kws : List (Str × V)} {f : Addr} {fd : FuncData} {ps ks : List Str} {n : Nat} {g : List Value → List Value → List Value} {gV : List V → List V → List V}
    (F : FunD K x qual params body scope [] kws f fd)
    (h : ∀ (kV doc pm : Value) (an : Option Addr) (cdv ct : Value) (us ws : List Value), us.length = n → ws.length = ks.length → bindArgs (PySem.W.fnOf x qual params body scope .none kV doc pm an cdv ct) ⟨us, ks.zip ws⟩ = pure (ps.zip (g us ws)))
    (rel : ∀ {vs : List V} {us : List Value} {zs : List V} {ws : List Value}, Vals vs us → Vals zs ws → Vals (gV vs zs) (g us ws)) : KBn K fd ps n ks g gV := by
  obtain ⟨oc, od, dV, kV, doc, pm, an, cdv, ct, osl, rfl, lk, hcd, hD, hK⟩ := F.ex
  rcases hD with ⟨_, rfl⟩ | ⟨e, _⟩
  · exact ⟨fun s us ws _ l1 l2 => .of_eq (h kV doc pm an cdv ct us ws l1 l2), rel⟩
  · exact absurd rfl e
def tMethN (C : Addr) (m : Str) (k : Nat) (sp : Sp) (gV : List V → List V → List V) (E : XK) (ta : TE) (tk : TA) : TE := fun σ H Q => ta σ H fun x H1 => ∃ a dx fs, x = .ref a ∧ H1 a = some (.ins C dx fs) ∧ fs.lookup m = none ∧
  tk σ H1 fun zs H2 => zs.length = k ∧ sp (gV [x] zs) H2 Q E
section
variable {X : Cx} {CX : CXT} {k : Nat} {f C : Addr} {fd : FuncData} {ps ks : List Str} {sp : Sp} {E : XK} {m : Str} {p pos apos : Pos} {o : Expr} {kws : List Keyword} {ta : TE} {tk : TA} {g : List Value → List Value → List Value} {gV : List V → List V → List V}
/-- o.m(k = v, ..) -/
theorem pe_methN {pl : Sem Bool} (he : PE X o ta) (c : Cls X.K C) (hm : Meth X.K C m f) (F : FnOk X.prog X.w X.K X.mg X.base CX k f fd ps sp) (hr : Room k X.A) (hb : KBn X.K fd ps 1 ks g gV) (hx : Passes CX X E)
    (hkw : PK X kws tk) (hall : (backToKw pos (keywordEach kws X.env)).all (·.1.isSome) = true := by rfl) (hks : (backToKw pos (keywordEach kws X.env)).filterMap (·.1) = ks := by rfl)
    (hpl : ((backTo pos (starEach [] X.env)).any (·.1) || (backToKw pos (keywordEach kws X.env)).any (·.1.isNone)) = false := by rfl)
    (ht : eval (.Call (.Attribute o m apos) [] kws pos) X.env = (do
      let ov ← eval o X.env
      standAt apos.atName
      let (f, first) ← holding [ov] (getMethod ov m pl)
      callWith pos f first (backTo pos (starEach [] X.env)) (backToKw pos (keywordEach kws X.env))) := by rfl) :
    PE X (.Call (.Attribute o m apos) [] kws pos) (tMethN C m ks.length sp gV E ta tk) := by
  refine ⟨fun pins s σ H Q I h => ?_⟩
  refine PySem.W.methodCall_KW (pl := pl) (thn (he.run pins s σ H _ I h) fun u s1 ⟨x, H1, I1, rx, a, dx, fs, ex, ea, l, q⟩ => ?_) ht
  subst ex
  obtain rfl : u = Value.ref a := rx
  refine getmeth_ok I1 ea c hm l ?_
  refine PySem.W.callWith_KW0 (first := [.ref a]) (h₀ := X.base) I.ok.mod.kin hm.kp hall (thn (hkw.run pos pins s1 σ H1 _ I1 q) fun ws s2 ⟨zs, H2, I2, rz, l2, q2⟩ => ⟨I2.kIn, ?_⟩) hpl
  rw [hks]
  exact run_fnN (us := [.ref a]) (vs := [.ref a]) F hr hb hx I2 (.cons rfl .nil) rz rfl l2 q2
end
def methNK (C : Addr) (m : Str) (k : Nat) (sp : Sp) (gV : List V → List V → List V) (E : XK) (tk : TA) (σ : L2.St) (Q : VK) (x : V) (H : Hp) : Prop := ∃ a dx fs, x = .ref a ∧ H a = some (.ins C dx fs) ∧ fs.lookup m = none ∧ tk σ H fun zs H2 => zs.length = k ∧ sp (gV [x] zs) H2 Q E
section
variable {K : PySem.W.Frag} {σ : L2.St} {H : Hp} {Q : VK} {E : XK} {p : Addr} {f s : Int} {C : Addr} {m : Str} {k : Nat} {sp : Sp} {gV : List V → List V → List V} {ta : TE} {tk : TA}
theorem x_methN (h : ta σ H fun x H1 => methNK C m k sp gV E tk σ Q x H1) : tMethN C m k sp gV E ta tk σ H Q := h
theorem x_methND (d : Drm K H p f s) (h1 : (¬ m = "_step") ∧ ¬ m = "_first") (h : tk σ H fun zs H2 => zs.length = k ∧ sp (gV [.ref p] zs) H2 Q E) : methNK (He.ga K "Drum") m k sp gV E tk σ Q (.ref p) H := by
  obtain ⟨dx, e⟩ := d.ob
  exact ⟨p, dx, _, rfl, e, dfl_no _ _ h1.1 h1.2, h⟩
theorem x_len1 {A : Prop} {xs : List V} {n : Nat} (e : xs.length = n) (h : A) : xs.length = n ∧ A := ⟨e, h⟩
end
/-- in the order of the text: the positional ones, then the keywords' -/
theorem rel_app {vs : List V} {us : List Value} {zs : List V} {ws : List Value} (h : Vals vs us) (k : Vals zs ws) : Vals (vs ++ zs) (us ++ ws) := h.append k
end Wm
namespace Wm
open PySem PySem.Spec PyProof.Rows L2
/-! ### while -/
def whK (tb : TS) (D : Ends) (I : L2.St → Hp → Prop) (n : Nat) (μ : L2.St → Nat) (σ : L2.St) (b : Bool) (H : Hp) : Prop :=
  if b = true then ∃ N : L2.St → Hp → Prop, (∀ σ' H', N σ' H' → ∃ m', m' < n ∧ (m' = μ σ' ∧ I σ' H')) ∧ tb { D with nx := N, ct := N, bk := D.nx } σ H else D.nx σ H
theorem x_while {c : TT} {tb : TS} {D : Ends} {σ : L2.St} {H : Hp} (I : L2.St → Hp → Prop) (μ : L2.St → Nat) (h0 : I σ H) (hs : ∀ σ H, I σ H → c σ H fun b H1 => whK tb D I (μ σ) μ σ b H1) : tWhile c tb D σ H := by
  refine ⟨fun m σ H => m = μ σ ∧ I σ H, ⟨_, rfl, h0⟩, ?_⟩
  rintro m σ H ⟨rfl, p⟩
  exact hs σ H p
theorem x_wh {tb : TS} {D : Ends} {I : L2.St → Hp → Prop} {n : Nat} {μ : L2.St → Nat} {σ : L2.St} {H : Hp} {p : Prop} [Decidable p]
    (h1 : p → tb { D with nx := fun σ' H' => I σ' H' ∧ μ σ' < n, ct := fun σ' H' => I σ' H' ∧ μ σ' < n, bk := D.nx } σ H) (h2 : ¬ p → D.nx σ H) : whK tb D I n μ σ (decide p) H := by
  unfold whK
  by_cases hp : p
  · rw [decide_eq_true hp]
    exact iteT ⟨_, fun σ' H' h => ⟨_, h.2, rfl, h.1⟩, h1 hp⟩
  · rw [decide_eq_false hp]
    exact iteF (h2 hp)
/-- the int in a slot -/
def sI (i : Nat) (σ : L2.St) : Int := match σ[i]? with
  | some (some (.int h)) => h
  | _ => 0
/-! ### a for over a range -/
def forR (g : TG) (tb : TS) (D : Ends) (σ : L2.St) (J : It) (H : Hp) : Prop := ∃ W : Nat → Nat → L2.St → Hp → Prop, (∃ m, W 0 m σ H) ∧ ∀ i m σ H, W i m σ H →
      (J.stop i H ∧ D.nx σ H) ∨ (J.go i H ∧ ∃ N : L2.St → Hp → Prop, (∀ σ' H', N σ' H' → ∃ m', m' < m ∧ W (i + 1) m' σ' H') ∧ ∀ x H', J.yld i H x H' → g x σ H' fun σ2 H2 => tb { D with nx := N, ct := N, bk := D.nx } σ2 H2)
def asR1 (R : It → Hp → Prop) (vs : List V) (H : Hp) : Prop := ∃ j : Int, vs = [.int j] ∧ -(2 ^ 62) ≤ j ∧ j < 2 ^ 62 ∧ R (Itr 0 j.toNat) H
theorem x_for1 {ta : TA} {g : TG} {tb : TS} {D : Ends} {σ : L2.St} {H : Hp} (h : ta σ H fun vs H1 => asR1 (fun J H => forR g tb D σ J H) vs H1) : tFor (iRng1 ta) g tb D σ H := h
theorem x_asR1 {R : It → Hp → Prop} {H : Hp} {j : Int} (h1 : 0 ≤ j) (h2 : j < 2 ^ 62) (h : R (Itr 0 j.toNat) H) : asR1 R [.int j] H := ⟨j, rfl, by omega, h2, h⟩
theorem x_forR {g : TG} {tb : TS} {D : Ends} {σ : L2.St} {H : Hp} {lo : Int} {n : Nat} (I : Nat → L2.St → Hp → Prop) (h0 : I 0 σ H)
    (hs : ∀ i σ H, i < n → I i σ H → g (.int (lo + i)) σ H fun σ2 H2 => tb { D with nx := I (i + 1), ct := I (i + 1), bk := D.nx } σ2 H2) (hd : ∀ σ H, I n σ H → D.nx σ H) : forR g tb D σ (Itr lo n) H := for_range I h0 hs hd
end Wm
namespace Wm
open PySem PySem.Spec PyProof.Rows L2
theorem Bd.lt {k : Nat} {x : Int} (h : Bd k x) : x < 2 ^ k := by
  unfold Bd at h
  have h1 : ((x.natAbs : Nat) : Int) < ((2 ^ k : Nat) : Int) := by exact_mod_cast h
  have h2 : ((2 ^ k : Nat) : Int) = 2 ^ k := by simp
  omega
theorem Bd.gt {k : Nat} {x : Int} (h : Bd k x) : -2 ^ k < x := by
  unfold Bd at h
  have h1 : ((x.natAbs : Nat) : Int) < ((2 ^ k : Nat) : Int) := by exact_mod_cast h
  have h2 : ((2 ^ k : Nat) : Int) = 2 ^ k := by simp
  omega
section
variable {K : PySem.W.Frag} {σ : L2.St} {H : Hp} {Q : VK} {p a q : Addr} {f s n : Int} {xs zs : List V} {o u : HO}
/-- a method of a list -/
def bmK (K : PySem.W.Frag) (T : String) (r : V → List V → Hp → VK → Prop) (t : TA) (σ : L2.St) (Q : VK) (x : V) (H : Hp) : Prop := tyV K T x H ∧ t σ H fun xs H2 => r x xs H2 Q
theorem x_bm {T : String} {r : V → List V → Hp → VK → Prop} {to : TE} {t : TA} (h : to σ H fun x H1 => bmK K T r t σ Q x H1) : tBM K T r to t σ H Q := h
theorem x_bmL {r : V → List V → Hp → VK → Prop} {t : TA} (e : SqL K H p xs) (h : t σ H fun ys H2 => r (.ref p) ys H2 Q) : bmK K "list" r t σ Q (.ref p) H := ⟨.inl ⟨rfl, _, e⟩, h⟩
theorem x_append {y : V} (e : H p = some (.lst xs)) (l : xs.length ≤ 1000) (h : Q .non (upd H p (.lst (xs ++ [y])))) : rAppend (.ref p) [y] H Q := ⟨p, xs, y, rfl, rfl, e, Nat.lt_of_le_of_lt l (by decide), h⟩
theorem Drm.set (e : H q = some (.lst xs)) (x : Drm K H p f s) : Drm K (L2.upd H q o) p f s := ⟨x.ob.elim fun dx e2 => ⟨dx, by rw [upd_ne (ne_of e2 e (by intro z; cases z))]; exact e2⟩, x.f1, x.f2, x.s0, x.s2⟩
theorem Src.set (ne : a ≠ q) (x : Src H a n) : Src (L2.upd H q o) a n := by
  obtain ⟨s0, s1, s2, e2, r⟩ := x
  exact ⟨s0, s1, s2, by rw [upd_ne ne]; exact e2, r⟩
theorem at_set (ne : p ≠ q) (x : H p = some o) : L2.upd H q u p = some o := by rw [upd_ne ne]; exact x
end
end Wm
namespace Wm
open PySem PySem.Spec PyProof.Rows L2
section
variable {X : Cx}
def tPar3 (i j k : Nat) (ta : TA) : TS := fun D σ H => ta σ H fun vs H1 => ∃ u v w, vs = [u, v, w] ∧ D.nx (((σ.set k (some w)).set j (some v)).set i (some u)) H1
/-- a, b, c = x, y, z with plain local names: stored from the right -/
theorem ps_par3 {i j k : Nat} {x y z : Str} {a b c : Expr} {ta : TA} {px py pz pt pos : Pos} {kt k2 pt2} (hc : X.calm = true) (hN : X.N.Nodup) (hi : X.N[i]? = some x) (hj : X.N[j]? = some y) (hk : X.N[k]? = some z)
    (hx : X.env.scope.names.lookup x = some .local) (hy : X.env.scope.names.lookup y = some .local) (hz : X.env.scope.names.lookup z = some .local) (ha : PA X [a, b, c] ta)
    (hw : swappedStores [.Tuple [.Name x px, .Name y py, .Name z pz] kt pt] (.Tuple [a, b, c] k2 pt2) X.env = pure (some [x, y, z]))
    (hs : swapsWithSole [.Tuple [.Name x px, .Name y py, .Name z pz] kt pt] (.Tuple [a, b, c] k2 pt2) pos.line X.env = pure false := by rfl) :
    PS X (.Assign [.Tuple [.Name x px, .Name y py, .Name z pz] kt pt] (.Tuple [a, b, c] k2 pt2) pos) (tPar3 i j k ta) := by
  refine ⟨fun pins s σ H D I h => ?_⟩
  rw [exec_Assign_arm]
  refine wpAny_bind (wpAny_standAt ?_)
  rw [hs]
  refine wpAny_bind (wpAny_pure ?_)
  rw [if_neg (by decide)]
  refine wpAny_bind (Tuple_ (thn (ha.run _ pins s σ H _ I h) fun us s1 ⟨vs, H1, I1, r1, q1⟩ => ?_))
  obtain ⟨v1, v2, v3, e1, q1⟩ := q1
  subst e1
  obtain ⟨u1, u2, u3, rfl, r1', r2', r3'⟩ : ∃ u1 u2 u3, us = [u1, u2, u3] ∧ RelV v1 u1 ∧ RelV v2 u2 ∧ RelV v3 u3 := by
    cases r1 with
    | cons p q =>
      cases q with
      | cons p' q' =>
        cases q' with
        | cons p'' q'' =>
          cases q''
          exact ⟨_, _, _, rfl, p, p', p''⟩
  refine wpAny_newObj_type ?_ (by show 3 ≤ sizeLine; decide)
  have I2 : L2.Inv X pins σ H1 { s1 with heap := s1.heap.push { cls := .type "tuple", data := .seq [u1, u2, u3].toArray } } := I1.kept (t' := s1.toks) fun b o e => Heap.get?_push_of_some _ e
  rw [hw]
  refine wpAny_bind (wpAny_pure ?_)
  show wpAny (model X.prog X.w) X.A (do rule "assign.swapped-stores"; let items ← unpackItems (.ref s1.heap.objs.size) 3 none; assignInOrder [fun v => bindName X.env z v, fun v => bindName X.env y v, fun v => bindName X.env x v] items.reverse; pure Flow.next) _ _ _
  refine wpAny_bind (wpAny_rule (wpAny_bind (unpackItems_tuple (items := #[u1, u2, u3]) (I.ok.hd hc) (IsTup.new s1.heap _) fun h' hx' => ?_)))
  have I3 := I2.kept (h' := h') (t' := s1.toks) fun b o e => hx' b o (Nat.ne_of_lt (Heap.lt_size e)) e
  show wpAny _ _ (assignInOrder [fun v => bindName X.env z v, fun v => bindName X.env y v, fun v => bindName X.env x v] [u3, u2, u1] >>= fun _ => pure Flow.next) _ _ _
  refine wpAny_bind (assignInOrder_cons (wpAny_bindName (store_ok I3 hN hk (.inl hz) r3' (fun s2 I4 => ?_) (.inr hz))))
  refine assignInOrder_cons (wpAny_bindName (store_ok I4 hN hj (.inl hy) r2' (fun s3 I5 => ?_) (.inr hy)))
  refine assignInOrder_cons (wpAny_bindName (store_ok I5 hN hi (.inl hx) r1' (fun s4 I6 => assignInOrder_nil (wpAny_pure ?_)) (.inr hx)))
  exact ⟨_, H1, I6, q1⟩
end
section
variable {σ σ' : L2.St} {H : Hp} {D : Ends} {u v w : V} {R : L2.St → Hp → Prop}
theorem x_parK3 {i j k : Nat} {tA : TA} (h : tA σ H fun vs H1 => ∃ u v w, vs = [u, v, w] ∧ D.nx (((σ.set k (some w)).set j (some v)).set i (some u)) H1) : tPar3 i j k tA D σ H := h
theorem x_par3 {i j k : Nat} (e : ((σ.set k (some w)).set j (some v)).set i (some u) = σ') (h : R σ' H) : ∃ u' v' w', [u, v, w] = [u', v', w'] ∧ R (((σ.set k (some w')).set j (some v')).set i (some u')) H := ⟨u, v, w, rfl, by rw [e]; exact h⟩
end
end Wm
namespace Wm
open PySem PySem.Spec PyProof.Rows L2
def rIsNn : R2 := fun x y H Q => y = .non ∧ Q (.bl (decide (x = .non))) H
theorem cp_isN {X : Cx} : OpR X (compareOp .Is) rIsNn := op_isN
def rNotNn : R2 := fun x y H Q => y = .non ∧ Q (.bl (!decide (x = .non))) H
theorem cp_notN {X : Cx} : OpR X (compareOp .IsNot) rNotNn := op_notN
section
variable {H : Hp} {Q : VK} {p : Addr} {i : Int}
theorem x_isN0 (h : Q (.bl true) H) : rIsNn .non .non H Q := ⟨rfl, by simpa using h⟩
theorem x_isN1 (h : Q (.bl false) H) : rIsNn (.ref p) .non H Q := ⟨rfl, by simpa using h⟩
theorem x_isN2 (h : Q (.bl false) H) : rIsNn (.int i) .non H Q := ⟨rfl, by simpa using h⟩
theorem x_notN0 (h : Q (.bl false) H) : rNotNn .non .non H Q := ⟨rfl, by simpa using h⟩
theorem x_notN1 (h : Q (.bl true) H) : rNotNn (.ref p) .non H Q := ⟨rfl, by simpa using h⟩
theorem x_notN2 (h : Q (.bl true) H) : rNotNn (.int i) .non H Q := ⟨rfl, by simpa using h⟩
end
end Wm

/-! A for over a range of great numbers. -/
namespace Wm
open PySem PySem.Spec PyProof.Rows L2
theorem turn_long {P : Program} {w : World} {K : PySem.W.Frag} {tg : Expr} (it : Addr) (lo : Int) (n : Nat) : L2.Turn P w K tg (Itr lo n) [it] it (fun i h => IsLongIter h it (lo + (i : Nat) * 1) ((n : Int) - (i : Nat)) 1) where
  mem := by simp
  obj := fun i h st b hb => by
    have e : b = it := by simpa using hb
    subst e
    exact ⟨_, st, fun v z => by
      have z' : Data.fields _ = Data.cell v := z
      cases z'⟩
  keep := fun i h h' st k => k it (by simp) _ st
  item := by
    intro X hP hw hK hc i pins s σ H E I hf st hg
    subst hP hw hK
    obtain ⟨f0, f1, f2, f3, f4, f5⟩ := hf it (by simp)
    have W := Walks.longrange (prog := X.prog) (w := X.w) (I.ok.hd hc) it lo 1 n
    refine W.item i s _ _ hg st fun v h' tk hv st' kk => ?_
    obtain ⟨t, rfl⟩ := hv
    have I1 : L2.Inv X pins σ H { s with heap := h', toks := tk } := I.turned (fun b o hb e => kk b o (by simpa using hb) e) f0 f1 f3 f4 f5
    refine ⟨_, rfl, go_of (s := { s with heap := h', toks := tk }) (n := "longrange_iterator") st' rfl rfl (by decide) ⟨.int (lo + i), H, I1, ⟨t, ?_⟩, ⟨rfl, rfl⟩, st', fun b hb => (hf b hb).1⟩⟩
    rw [Int.mul_one]
  done := by
    intro X hP hw hK hc i pins s σ H E I hf st hg
    subst hP hw hK
    obtain ⟨f0, f1, f2, f3, f4, f5⟩ := hf it (by simp)
    exact wpAny_pyNext_long_end (I.ok.hd hc) st (by have : n ≤ i := hg; omega) fun h' eb => ⟨rfl, I.turned (t' := s.toks) (fun b o hb e => eb b o hb e) f0 f1 f3 f4 f5⟩
  self := fun _ _ _ _ _ st h => wpAny_pyIter_longiter st h
section
variable {X : Cx} {tg : Expr}
theorem range_itW {pins : List (Addr × Obj)} {σ : L2.St} {H : Hp} {s : Shared} {R : It → Hp → Prop} {E : Value → Shared → Prop} {lo hi : Int} {t u v : Tok} {tk : Nat} (I : L2.Inv X pins σ H s)
    (q : R (Itr lo (hi - lo).toNat) H) : wpAny (model X.prog X.w) X.A (pyIter (.ref s.heap.objs.size)) (PIE X pins σ tg R) E { s with heap := s.heap.push { cls := .type "range", data := .fields #[.int lo t, .int hi u, .int 1 v] }, toks := tk } := by
  have I1 : L2.Inv X pins σ H { s with heap := s.heap.push { cls := .type "range", data := .fields #[.int lo t, .int hi u, .int 1 v] }, toks := tk } := I.kept fun b o e => Heap.get?_push_of_some _ e
  have e1 : lo + ((0 : Nat) : Int) * 1 = lo := by simp
  have e2 : (((hi - lo).toNat : Nat) : Int) - ((0 : Nat) : Int) = Builtin.Range.rangeSize lo hi 1 := by rw [rangeSize_one]; split <;> omega
  have fp : ∀ b ∈ [(s.heap.push { cls := .type "range", data := .fields #[.int lo t, .int hi u, .int 1 v] }).objs.size], FpOk X pins H b := fun b hb => by
    have e : b = (s.heap.push { cls := .type "range", data := .fields #[.int lo t, .int hi u, .int 1 v] }).objs.size := by simpa using hb
    subst e
    exact I1.fpOk (Nat.le_refl _) (I1.hok.fresh (Nat.le_refl _))
  cases hs : Builtin.Range.small lo hi 1 with
  | true =>
    refine wpAny_pyIter_range (IsRange.new ..) hs ?_
    refine ⟨(s.heap.push { cls := .type "range", data := .fields #[.int lo t, .int hi u, .int 1 v] }).objs.size, [(s.heap.push { cls := .type "range", data := .fields #[.int lo t, .int hi u, .int 1 v] }).objs.size], _, _, H, rfl,
      I1.kept (t' := tk) fun b o e => Heap.get?_push_of_some _ e, turn_range _ lo (hi - lo).toNat, ?_, fp, q⟩
    show IsRangeIter _ _ (lo + ((0 : Nat) : Int) * 1) ((((hi - lo).toNat : Nat) : Int) - ((0 : Nat) : Int)) 1
    rw [e1, e2]
    exact Heap.get?_push_size _ rfl
  | false =>
    refine wpAny_pyIter_longrange (IsRange.new ..) hs ?_
    refine ⟨(s.heap.push { cls := .type "range", data := .fields #[.int lo t, .int hi u, .int 1 v] }).objs.size, [(s.heap.push { cls := .type "range", data := .fields #[.int lo t, .int hi u, .int 1 v] }).objs.size], _, _, H, rfl,
      I1.kept (t' := tk) fun b o e => Heap.get?_push_of_some _ e, turn_long _ lo (hi - lo).toNat, ?_, fp, q⟩
    show IsLongIter _ _ (lo + ((0 : Nat) : Int) * 1) ((((hi - lo).toNat : Nat) : Int) - ((0 : Nat) : Int)) 1
    rw [e1, e2]
    exact Heap.get?_push_size _ rfl
def iRngW (ta : TA) : TI := fun σ H R => ta σ H fun vs H1 => ∃ i j : Int, vs = [.int i, .int j] ∧ R (Itr i (j - i).toNat) H1
theorem pi_rangeW {a b : Expr} {ta : TA} {p pos : Pos} (hg : Gl X "range") (hm : X.mg "range" = none) (ha : PA X [a, b] ta) (hs : starEach [a, b] X.env = [(false, eval a X.env), (false, eval b X.env)] := by rfl) (hs2 : starEach [b] X.env = [(false, eval b X.env)] := by rfl) :
    PI X tg (.Call (.Name "range" p) [a, b] [] pos) (iRngW ta) := by
  refine ⟨fun pins s σ H R I h => ?_⟩
  refine Call_ (ld_blt I hg hm boot_range (PyProof.Rows.callWith_type1 (thn (ha.run pos pins s σ H _ I h) fun us s1 ⟨vs, H1, I1, r1, q1⟩ => ?_) (by rw [hs, hs2]) (by rw [hs2]; rfl)))
  obtain ⟨i, j, e, q⟩ := q1
  subst e
  cases r1 with
  | cons r rr =>
    cases rr with
    | cons r' rr =>
      cases rr
      obtain ⟨t, rfl⟩ := r
      obtain ⟨t', rfl⟩ := r'
      exact call_range_2 (range_itW I1 q)
end
def asRW (R : It → Hp → Prop) (vs : List V) (H : Hp) : Prop := ∃ i j : Int, vs = [.int i, .int j] ∧ R (Itr i (j - i).toNat) H
theorem x_forW {ta : TA} {g : TG} {tb : TS} {D : Ends} {σ : L2.St} {H : Hp} (h : ta σ H fun vs H1 => asRW (fun J H => forR g tb D σ J H) vs H1) : tFor (iRngW ta) g tb D σ H := h
theorem x_asRW {R : It → Hp → Prop} {H : Hp} {i j : Int} (h : R (Itr i (j - i).toNat) H) : asRW R [.int i, .int j] H := ⟨i, j, rfl, h⟩
end Wm

/-! Promises of the laws' own helpers. -/
namespace Wm
open PySem PySem.Spec PyProof.Rows L2
/-- a drum is drawn: a new tuple of its first and its step -/
def sp__law_drum : Sp := fun vs H Q _ => ∃ (a : Addr) (n : Int), vs = [.ref a] ∧ Src H a n ∧ n < 2 ^ 45 ∧
  ∀ (p : Addr) (H' : Hp) (f s : Int), 1 ≤ f → f ≤ 10 ^ 14 → 0 ≤ s → s ≤ 10 ^ 14 → Src H' a (n + 20) → But a H H' → H' p = some (.tup [.int f, .int s]) → Q (.ref p) H'
def sp__law_begins : Sp := fun vs H Q _ => ∃ f s t : Int, vs = [.int f, .int s, .int t] ∧ Bd 300 f ∧ Bd 300 s ∧ Bd 300 t ∧ Q (.int (Bg f s t)) H
def sp__law_turn : Sp := fun vs H Q _ => ∃ f s c : Int, vs = [.int f, .int s, .int c] ∧ 1 ≤ f ∧ Bd 200 f ∧ 0 ≤ s ∧ Bd 200 s ∧ 0 ≤ c ∧ c < 2 ^ 250 ∧ Q (.int (tOf f s c)) H
def sp__law_great : Sp := fun vs H Q _ => ∃ (a : Addr) (n m : Int), vs = [.ref a, .int m] ∧ Src H a n ∧ n < 2 ^ 46 ∧ 0 < m ∧ m < 2 ^ 1000 ∧
  ∀ (r : Int) (H' : Hp), 0 ≤ r → r < m → Src H' a (n + 3) → But a H H' → Q (.int r) H'
section
variable {K : PySem.W.Frag} {σ : L2.St} {H : Hp} {Q : VK} {E : XK} {p a q : Addr} {f s t c l n m : Int}
theorem y_law_drum (hs : Src H a n) (hn : n < 2 ^ 45) (h : ∀ (p : Addr) (H' : Hp) (f s : Int), 1 ≤ f → f ≤ 10 ^ 14 → 0 ≤ s → s ≤ 10 ^ 14 → Src H' a (n + 20) → But a H H' → H' p = some (.tup [.int f, .int s]) → Q (.ref p) H') : sp__law_drum [.ref a] H Q E := ⟨a, n, rfl, hs, hn, h⟩
theorem y_law_begins (bf : Bd 300 f) (bs : Bd 300 s) (bt : Bd 300 t) (h : Q (.int (Bg f s t)) H) : sp__law_begins [.int f, .int s, .int t] H Q E := ⟨f, s, t, rfl, bf, bs, bt, h⟩
theorem y_law_turn (f1 : 1 ≤ f) (bf : Bd 200 f) (s0 : 0 ≤ s) (bs : Bd 200 s) (c0 : 0 ≤ c) (c1 : c < 2 ^ 250) (h : Q (.int (tOf f s c)) H) : sp__law_turn [.int f, .int s, .int c] H Q E := ⟨f, s, c, rfl, f1, bf, s0, bs, c0, c1, h⟩
theorem y_great (hs : Src H a n) (hn : n < 2 ^ 46) (h0 : 0 < m) (h1 : m < 2 ^ 1000) (h : ∀ (r : Int) (H' : Hp), 0 ≤ r → r < m → Src H' a (n + 3) → But a H H' → Q (.int r) H') : sp__law_great [.ref a, .int m] H Q E := ⟨a, n, m, rfl, hs, hn, h0, h1, h⟩
end
/-- as the laws reckon it -/
theorem bg_law (f s t : Int) : t * f + s * t * (t - 1) / 2 = Bg f s t := by
  unfold Bg
  have h := tri2 t
  have e : s * t * (t - 1) = 2 * (s * (t * (t - 1) / 2)) := by
    generalize t * (t - 1) / 2 = d at *
    grind
  rw [e]
  omega
end Wm

/-! What touches what: the promises of the gaps. -/
namespace Wm
open PySem PySem.Spec PyProof.Rows L2
def metL (f s l z t : Int) : Int := Bg f s t + l * (f + t * s) / z
def metH (f s l z t : Int) : Int := Bg f s t + ((l + 1) * (f + t * s) - 1) / z
/-- a cell's place, its turn's size -/
def plc (f s c : Int) : Int := c - Bg f s (tOf f s c)
def siz (f s c : Int) : Int := f + tOf f s c * s
def bnL (f s c : Int) : Int := metL f s (plc f s c) (siz f s c) (tOf f s c - 1)
def bnH (f s c : Int) : Int := metH f s (plc f s c) (siz f s c) (tOf f s c - 1)
def abL (f s c : Int) : Int := metL f s (plc f s c) (siz f s c) (tOf f s c + 1)
def abH (f s c : Int) : Int := metH f s (plc f s c) (siz f s c) (tOf f s c + 1)
def gcdI (f s : Int) : Int := ((Nat.gcd f.natAbs s.natAbs : Nat) : Int)
def secN (f s c : Int) : Int := plc f s c / (siz f s c / gcdI f s)
def secC (f s c : Int) : Int := Bg f s (tOf f s c) / gcdI f s + (plc f s c) % (siz f s c / gcdI f s)
def pieI (f s n : Int) : Int := if tOf f s (n - 1) = 0 then 0 else gcdI f s * (tOf f s (n - 1) - 1) + secN f s (n - 1) + 1
def paiI (f s n : Int) : Int := if tOf f s (n - 1) = 0 then 0 else (n - f) + (bnH f s (n - 1) + 1) - pieI f s n
theorem plc_nn {f s c : Int} (hf : 1 ≤ f) (hs : 0 ≤ s) (hc : 0 ≤ c) : 0 ≤ plc f s c := by have := tOf_le hf hs hc; unfold plc; omega
theorem plc_lt {f s c : Int} (hf : 1 ≤ f) (hs : 0 ≤ s) (hc : 0 ≤ c) : plc f s c < siz f s c := by have := tOf_gt hf hs hc; unfold plc siz; omega
theorem gcdI_pos {f s : Int} (hf : 1 ≤ f) : 1 ≤ gcdI f s := by
  unfold gcdI
  have := Nat.gcd_pos_of_pos_left s.natAbs (show 0 < f.natAbs by omega)
  omega
theorem gcdI_le {f s : Int} (hf : 1 ≤ f) : gcdI f s ≤ f := by
  unfold gcdI
  have := Nat.le_of_dvd (show 0 < f.natAbs by omega) (Nat.gcd_dvd_left f.natAbs s.natAbs)
  omega
theorem gcdI_dl (f s : Int) : gcdI f s ∣ f := PySem.W.mg_dvd_left f s
theorem gcdI_dr (f s : Int) : gcdI f s ∣ s := PySem.W.mg_dvd_right f s
theorem gcdI_dz (f s t : Int) : gcdI f s ∣ f + t * s := Int.dvd_add (gcdI_dl f s) (Int.dvd_mul_of_dvd_right (gcdI_dr f s))
theorem dvd_part {g z : Int} (hg : 1 ≤ g) (hz : 1 ≤ z) (h : g ∣ z) : 1 ≤ z / g ∧ g * (z / g) = z := by
  obtain ⟨k, rfl⟩ := h
  rw [Int.mul_ediv_cancel_left _ (by omega)]
  refine ⟨?_, rfl⟩
  apply Classical.byContradiction
  intro q
  have := Int.mul_le_mul_of_nonneg_left (show k ≤ 0 by omega) (show 0 ≤ g by omega)
  omega
/-! ### promises -/
section
variable (K : PySem.W.Frag)
def sp__met : Sp := fun vs H Q _ => ∃ (p : Addr) (f s l z t : Int), vs = [.ref p, .int l, .int z, .int t] ∧ Drm K H p f s ∧ 0 ≤ l ∧ l < z ∧ z < 2 ^ 1000 ∧ 0 ≤ t ∧ t < 2 ^ 1000 ∧
  ∀ (q : Addr) (H' : Hp), Same H H' → H' q = some (.tup [.int (metL f s l z t), .int (metH f s l z t)]) → Q (.ref q) H'
def sp_beneath : Sp := fun vs H Q _ => ∃ (p : Addr) (f s c : Int), vs = [.ref p, .int c] ∧ Drm K H p f s ∧ 0 ≤ c ∧ c < 2 ^ 700 ∧
  (tOf f s c = 0 → ∀ H', Same H H' → Q .non H') ∧ (¬ tOf f s c = 0 → ∀ (q : Addr) (H' : Hp), Same H H' → H' q = some (.tup [.int (bnL f s c), .int (bnH f s c)]) → Q (.ref q) H')
def sp_above : Sp := fun vs H Q _ => ∃ (p : Addr) (f s n c : Int), vs = [.ref p, .int n, .int c] ∧ Drm K H p f s ∧ 1 ≤ n ∧ 0 ≤ c ∧ c < n ∧ n < 2 ^ 700 ∧
  (n ≤ abL f s c → ∀ H', Same H H' → Q .non H') ∧ (¬ n ≤ abL f s c → ∀ (q : Addr) (H' : Hp), Same H H' → H' q = some (.tup [.int (abL f s c), .int (min (abH f s c) (n - 1))]) → Q (.ref q) H')
def sp__sectors : Sp := fun vs H Q _ => ∃ (p : Addr) (f s : Int), vs = [.ref p] ∧ Drm K H p f s ∧ Q (.int (gcdI f s)) H
def sp_sector : Sp := fun vs H Q _ => ∃ (p : Addr) (f s c : Int), vs = [.ref p, .int c] ∧ Drm K H p f s ∧ 0 ≤ c ∧ c < 2 ^ 700 ∧
  ∀ (q : Addr) (H' : Hp), Same H H' → H' q = some (.tup [.int (secN f s c), .int (secC f s c)]) → Q (.ref q) H'
def sp_pieces : Sp := fun vs H Q _ => ∃ (p : Addr) (f s n : Int), vs = [.ref p, .int n] ∧ Drm K H p f s ∧ 1 ≤ n ∧ n < 2 ^ 600 ∧ ∀ H', Same H H' → Q (.int (pieI f s n)) H'
def sp_pairs : Sp := fun vs H Q _ => ∃ (p : Addr) (f s n : Int), vs = [.ref p, .int n] ∧ Drm K H p f s ∧ 1 ≤ n ∧ n < 2 ^ 600 ∧ ∀ H', Same H H' → Q (.int (paiI f s n)) H'
end
section
variable {K : PySem.W.Frag} {H : Hp} {Q : VK} {E : XK} {p a q : Addr} {f s t c l n m z : Int}
theorem y_met (d : Drm K H p f s) (h0 : 0 ≤ l) (h1 : l < z) (h2 : z < 2 ^ 1000) (h3 : 0 ≤ t) (h4 : t < 2 ^ 1000) (h : ∀ (q : Addr) (H' : Hp), Same H H' → H' q = some (.tup [.int (metL f s l z t), .int (metH f s l z t)]) → Q (.ref q) H') : sp__met K [.ref p, .int l, .int z, .int t] H Q E := ⟨p, f, s, l, z, t, rfl, d, h0, h1, h2, h3, h4, h⟩
theorem y_beneath (d : Drm K H p f s) (h0 : 0 ≤ c) (h1 : c < 2 ^ 700) (h : tOf f s c = 0 → ∀ H', Same H H' → Q .non H') (h' : ¬ tOf f s c = 0 → ∀ (q : Addr) (H' : Hp), Same H H' → H' q = some (.tup [.int (bnL f s c), .int (bnH f s c)]) → Q (.ref q) H') : sp_beneath K [.ref p, .int c] H Q E := ⟨p, f, s, c, rfl, d, h0, h1, h, h'⟩
theorem y_above (d : Drm K H p f s) (h0 : 1 ≤ n) (h1 : 0 ≤ c) (h2 : c < n) (h3 : n < 2 ^ 700) (h : n ≤ abL f s c → ∀ H', Same H H' → Q .non H') (h' : ¬ n ≤ abL f s c → ∀ (q : Addr) (H' : Hp), Same H H' → H' q = some (.tup [.int (abL f s c), .int (min (abH f s c) (n - 1))]) → Q (.ref q) H') : sp_above K [.ref p, .int n, .int c] H Q E := ⟨p, f, s, n, c, rfl, d, h0, h1, h2, h3, h, h'⟩
theorem y_sectors (d : Drm K H p f s) (h : Q (.int (gcdI f s)) H) : sp__sectors K [.ref p] H Q E := ⟨p, f, s, rfl, d, h⟩
theorem y_sector (d : Drm K H p f s) (h0 : 0 ≤ c) (h1 : c < 2 ^ 700) (h : ∀ (q : Addr) (H' : Hp), Same H H' → H' q = some (.tup [.int (secN f s c), .int (secC f s c)]) → Q (.ref q) H') : sp_sector K [.ref p, .int c] H Q E := ⟨p, f, s, c, rfl, d, h0, h1, h⟩
theorem y_pieces (d : Drm K H p f s) (h0 : 1 ≤ n) (h1 : n < 2 ^ 600) (h : ∀ H', Same H H' → Q (.int (pieI f s n)) H') : sp_pieces K [.ref p, .int n] H Q E := ⟨p, f, s, n, rfl, d, h0, h1, h⟩
theorem y_pairs (d : Drm K H p f s) (h0 : 1 ≤ n) (h1 : n < 2 ^ 600) (h : ∀ H', Same H H' → Q (.int (paiI f s n)) H') : sp_pairs K [.ref p, .int n] H Q E := ⟨p, f, s, n, rfl, d, h0, h1, h⟩
end
end Wm
namespace Wm
open PySem PySem.Spec PyProof.Rows L2
/-! ### promises of the laws' helpers, for gaps -/
def meets (u z l e : Int) : Prop := u * e < (l + 1) * z ∧ l * z < (u + 1) * e
instance (u z l e : Int) : Decidable (meets u z l e) := inferInstanceAs (Decidable (_ ∧ _))
def sp__law_meet : Sp := fun vs H Q _ => ∃ u z l e : Int, vs = [.int u, .int z, .int l, .int e] ∧ Bd 300 u ∧ Bd 300 z ∧ Bd 300 l ∧ Bd 300 e ∧ Q (.bl (decide (meets u z l e))) H
def sp__law_first_over : Sp := fun vs H Q _ => ∃ l z m : Int, vs = [.int l, .int z, .int m] ∧ 0 ≤ l ∧ l < z ∧ Bd 300 z ∧ 1 ≤ m ∧ Bd 300 m ∧ Q (.int (l * m / z)) H
def sp__law_spot : Sp := fun vs H Q _ => ∃ (a : Addr) (n f s e : Int), vs = [.ref a, .int f, .int s, .int e] ∧ Src H a n ∧ n < 2 ^ 40 ∧ 1 ≤ f ∧ f ≤ 10 ^ 14 ∧ 0 ≤ s ∧ s ≤ 10 ^ 14 ∧ 0 ≤ e ∧ e ≤ 9 ∧
  ∀ (p : Addr) (H' : Hp) (t l : Int), e ≤ t → t ≤ e + 10 ^ 7 → 0 ≤ l → l < f + t * s → Src H' a (n + 20) → But a H H' → H' p = some (.tup [.int t, .int l, .int (f + t * s), .int (Bg f s t + l)]) → Q (.ref p) H'
def sp__law_common : Sp := fun vs H Q _ => ∃ x y : Int, vs = [.int x, .int y] ∧ 0 ≤ x ∧ 0 ≤ y ∧ Q (.int (gcdI x y)) H
def sp__law_roll : Sp := fun vs H Q _ => ∃ (a : Addr) (n f s : Int), vs = [.ref a, .int f, .int s] ∧ Src H a n ∧ n < 2 ^ 40 ∧ 1 ≤ f ∧ f ≤ 10 ^ 14 ∧ 0 ≤ s ∧ s ≤ 10 ^ 14 ∧
  ∀ (p : Addr) (H' : Hp) (t l : Int), 1 ≤ t → t ≤ 10 ^ 7 → 1 ≤ l → l ≤ f + t * s → Src H' a (n + 20) → But a H H' → H' p = some (.tup [.int t, .int l, .int (Bg f s t + l)]) → Q (.ref p) H'
section
variable {K : PySem.W.Frag} {H : Hp} {Q : VK} {E : XK} {p a q : Addr} {f s t c l n m z u e x y : Int}
theorem y_meet (b1 : Bd 300 u) (b2 : Bd 300 z) (b3 : Bd 300 l) (b4 : Bd 300 e) (h : Q (.bl (decide (meets u z l e))) H) : sp__law_meet [.int u, .int z, .int l, .int e] H Q E := ⟨u, z, l, e, rfl, b1, b2, b3, b4, h⟩
theorem y_first_over (h0 : 0 ≤ l) (h1 : l < z) (bz : Bd 300 z) (m1 : 1 ≤ m) (bm : Bd 300 m) (h : Q (.int (l * m / z)) H) : sp__law_first_over [.int l, .int z, .int m] H Q E := ⟨l, z, m, rfl, h0, h1, bz, m1, bm, h⟩
theorem y_spot (hs : Src H a n) (hn : n < 2 ^ 40) (f1 : 1 ≤ f) (f2 : f ≤ 10 ^ 14) (s1 : 0 ≤ s) (s2 : s ≤ 10 ^ 14) (e0 : 0 ≤ e) (e9 : e ≤ 9)
    (h : ∀ (p : Addr) (H' : Hp) (t l : Int), e ≤ t → t ≤ e + 10 ^ 7 → 0 ≤ l → l < f + t * s → Src H' a (n + 20) → But a H H' → H' p = some (.tup [.int t, .int l, .int (f + t * s), .int (Bg f s t + l)]) → Q (.ref p) H') : sp__law_spot [.ref a, .int f, .int s, .int e] H Q E := ⟨a, n, f, s, e, rfl, hs, hn, f1, f2, s1, s2, e0, e9, h⟩
theorem y_common (h0 : 0 ≤ x) (h1 : 0 ≤ y) (h : Q (.int (gcdI x y)) H) : sp__law_common [.int x, .int y] H Q E := ⟨x, y, rfl, h0, h1, h⟩
theorem y_roll (hs : Src H a n) (hn : n < 2 ^ 40) (f1 : 1 ≤ f) (f2 : f ≤ 10 ^ 14) (s1 : 0 ≤ s) (s2 : s ≤ 10 ^ 14)
    (h : ∀ (p : Addr) (H' : Hp) (t l : Int), 1 ≤ t → t ≤ 10 ^ 7 → 1 ≤ l → l ≤ f + t * s → Src H' a (n + 20) → But a H H' → H' p = some (.tup [.int t, .int l, .int (Bg f s t + l)]) → Q (.ref p) H') : sp__law_roll [.ref a, .int f, .int s] H Q E := ⟨a, n, f, s, rfl, hs, hn, f1, f2, s1, s2, h⟩
end
theorem gcd_zero {x : Int} (h : 0 ≤ x) : gcdI x 0 = x := by unfold gcdI; simp; omega
theorem gcd_turn {x y : Int} (hx : 0 ≤ x) (hy : 0 < y) : gcdI y (x.fmod y) = gcdI x y := by
  obtain ⟨n, rfl⟩ := Int.eq_ofNat_of_zero_le hx
  obtain ⟨m, rfl⟩ := Int.eq_ofNat_of_zero_le (Int.le_of_lt hy)
  rw [Int.fmod_eq_emod_of_nonneg _ (by omega)]
  unfold gcdI
  have e : ((n : Int) % (m : Int)) = ((n % m : Nat) : Int) := by simp
  rw [e]
  simp only [Int.natAbs_natCast]
  rw [Nat.gcd_comm m (n % m), ← Nat.gcd_rec, Nat.gcd_comm]
end Wm
namespace Wm
open PySem PySem.Spec PyProof.Rows L2
theorem meets_mk {u z l e : Int} (h1 : u * e < (l + 1) * z) (h2 : l * z < (u + 1) * e) : meets u z l e := And.intro h1 h2
theorem meets_1 {u z l e : Int} (h : meets u z l e) : u * e < (l + 1) * z := And.left h
theorem meets_2 {u z l e : Int} (h : meets u z l e) : l * z < (u + 1) * e := And.right h
theorem div_bd (a z : Int) (hz : 0 < z) : a / z * z ≤ a ∧ a < a / z * z + z := by
  have h1 := Int.mul_ediv_add_emod a z
  have h2 := Int.emod_nonneg a (show z ≠ 0 by omega)
  have h3 := Int.emod_lt_of_pos a hz
  have h4 : a / z * z = z * (a / z) := Int.mul_comm _ _
  omega
theorem div_is {a z q : Int} (hz : 0 < z) (h1 : q * z ≤ a) (h2 : a < q * z + z) : a / z = q := by
  obtain ⟨b1, b2⟩ := div_bd a z hz
  generalize a / z = d at *
  apply Classical.byContradiction
  intro c
  rcases (by omega : d + 1 ≤ q ∨ q + 1 ≤ d) with e | e
  · have := Int.mul_le_mul_of_nonneg_right e (Int.le_of_lt hz)
    have e2 : (d + 1) * z = d * z + z := by grind
    omega
  · have := Int.mul_le_mul_of_nonneg_right e (Int.le_of_lt hz)
    have e2 : (q + 1) * z = q * z + z := by grind
    omega
/-- what lies on place l of a turn of z places: of one of m, no less, from lo to la -/
theorem over_facts {l z m : Int} (l0 : 0 ≤ l) (l1 : l < z) (hm : z ≤ m) :
    0 ≤ l * m / z ∧ l * m / z ≤ ((l + 1) * m - 1) / z ∧ ((l + 1) * m - 1) / z ≤ m - 1 ∧ meets (l * m / z) m l z ∧ (0 < l * m / z → ¬ meets (l * m / z - 1) m l z) ∧
    (l + 1 < z → (l + 1) * m / z - (if (!decide (meets ((l + 1) * m / z) m l z)) = true then 1 else 0) = ((l + 1) * m - 1) / z ∧ (l + 1) * m / z ≤ m) ∧ (¬ l + 1 < z → m - 1 = ((l + 1) * m - 1) / z) ∧
    meets (((l + 1) * m - 1) / z) m l z := by
  have z0 : 0 < z := by omega
  obtain ⟨a1, a2⟩ := div_bd (l * m) z z0
  obtain ⟨b1, b2⟩ := div_bd ((l + 1) * m - 1) z z0
  obtain ⟨c1, c2⟩ := div_bd ((l + 1) * m) z z0
  have e1 : (l + 1) * m = l * m + m := by grind
  have lm : 0 ≤ l * m := mul_nn l0 (by omega)
  have n0 : 0 ≤ l * m / z := Int.ediv_nonneg lm (by omega)
  have n1 : l * m / z ≤ ((l + 1) * m - 1) / z := Int.ediv_le_ediv z0 (by omega)
  have n3 : (l + 1) * m ≤ z * m := Int.mul_le_mul_of_nonneg_right (by omega) (by omega)
  have e3 : z * m = m * z := Int.mul_comm _ _
  have n2 : ((l + 1) * m - 1) / z ≤ m - 1 := by
    have : ((l + 1) * m - 1) / z < m := by
      rw [Int.ediv_lt_iff_lt_mul z0]
      omega
    omega
  have n4 : (l + 1) * m / z ≤ m := by
    have : (l + 1) * m / z ≤ m * z / z := Int.ediv_le_ediv z0 (by omega)
    rw [Int.mul_ediv_cancel _ (by omega)] at this
    exact this
  have n5 : ((l + 1) * m - 1) / z ≤ (l + 1) * m / z := Int.ediv_le_ediv z0 (by omega)
  generalize l * m / z = lo at *
  generalize ((l + 1) * m - 1) / z = la at *
  generalize (l + 1) * m / z = q at *
  have x1 : (lo + 1) * z = lo * z + z := by grind
  have x2 : (lo - 1 + 1) * z = lo * z := by grind
  have x3 : (q + 1) * z = q * z + z := by grind
  have x4 : (la + 1) * z = la * z + z := by grind
  have x5 : la * z ≤ q * z := Int.mul_le_mul_of_nonneg_right n5 (by omega)
  refine ⟨n0, n1, n2, meets_mk (by omega) (by omega), fun _ c => by have := meets_2 c; omega, fun c => ⟨?_, n4⟩, fun c => ?_, meets_mk (by omega) ?_⟩
  · by_cases d : meets q m l z
    · rw [decide_eq_true d]
      simp only [Bool.not_true, Bool.false_eq_true, if_false, Int.sub_zero]
      have := meets_1 d
      have : q * z ≤ (l + 1) * m - 1 := by omega
      apply Classical.byContradiction
      intro ne
      have : la + 1 ≤ q := by omega
      have := Int.mul_le_mul_of_nonneg_right this (Int.le_of_lt z0)
      omega
    · rw [decide_eq_false d]
      simp only [Bool.not_false, if_true]
      have : q * z = (l + 1) * m := by
        apply Classical.byContradiction
        intro ne
        exact d (meets_mk (by omega) (by omega))
      have y1 : la < q := by
        apply Classical.byContradiction
        intro c2
        have := Int.mul_le_mul_of_nonneg_right (show q ≤ la by omega) (Int.le_of_lt z0)
        omega
      apply Classical.byContradiction
      intro ne
      have := Int.mul_le_mul_of_nonneg_right (show la + 1 ≤ q - 1 by omega) (Int.le_of_lt z0)
      have y2 : (q - 1) * z = q * z - z := by grind
      omega
  · have e4 : l + 1 = z := by omega
    rw [e4] at b1 b2
    apply Classical.byContradiction
    intro ne
    have := Int.mul_le_mul_of_nonneg_right (show la + 1 ≤ m - 1 by omega) (Int.le_of_lt z0)
    have y2 : (m - 1) * z = m * z - z := by grind
    omega
  · have := Int.mul_le_mul_of_nonneg_right n1 (Int.le_of_lt z0)
    omega
theorem where_at {f s t l : Int} (hf : 1 ≤ f) (hs : 0 ≤ s) (ht : 0 ≤ t) (l0 : 0 ≤ l) (l1 : l < f + t * s) : tOf f s (Bg f s t + l) = t ∧ plc f s (Bg f s t + l) = l ∧ siz f s (Bg f s t + l) = f + t * s := by
  have h := bg_ge hf hs ht
  have e := tOf_eq hf hs ht (show Bg f s t ≤ Bg f s t + l by omega) (by omega) (by omega)
  refine ⟨e, ?_, ?_⟩
  · unfold plc; rw [e]; omega
  · unfold siz; rw [e]
theorem ab_at {f s t l : Int} (hf : 1 ≤ f) (hs : 0 ≤ s) (ht : 0 ≤ t) (l0 : 0 ≤ l) (l1 : l < f + t * s) :
    abL f s (Bg f s t + l) = Bg f s (t + 1) + l * (f + t * s + s) / (f + t * s) ∧ abH f s (Bg f s t + l) = Bg f s (t + 1) + ((l + 1) * (f + t * s + s) - 1) / (f + t * s) := by
  obtain ⟨e1, e2, e3⟩ := where_at hf hs ht l0 l1
  have e4 : f + (t + 1) * s = f + t * s + s := by grind
  unfold abL abH metL metH
  rw [e1, e2, e3, e4]
  exact ⟨rfl, rfl⟩
theorem x_iteJ {p A B C : Prop} [Decidable p] (h1 : p → C → A) (h2 : ¬ p → C → B) (h : C) : if decide p = true then A else B := x_ite (fun q => h1 q h) (fun q => h2 q h)
theorem x_neNN {K : PySem.W.Frag} {H : Hp} {Q : VK} (h : Q (.bl false) H) : rNeD K .non .non H Q := ⟨_, _, .non, .non, by decide, by decide, by
  have e : PyData.eqv .none .none = true := by rw [PyData.eqv]
  rw [e]; exact h⟩
end Wm

/-! Whole numbers: what the sectors lean on. -/
namespace Wm
theorem dvd_gen {a z x g : Int} (ha : 1 ≤ a) (hg : ((Int.gcd a z : Nat) : Int) = g) : a ∣ x * z ↔ a / g ∣ x := by
  have g0 : 0 < Int.gcd a z := Int.gcd_pos_of_ne_zero_left z (by omega)
  have g1 : 0 < g := by omega
  obtain ⟨w, hw⟩ : g ∣ a := by rw [← hg]; exact Int.gcd_dvd_left a z
  obtain ⟨v, hv⟩ : g ∣ z := by rw [← hg]; exact Int.gcd_dvd_right a z
  have e1 : a / g = w := by rw [hw]; exact Int.mul_ediv_cancel_left _ (by omega)
  have cop : Int.gcd w v = 1 := by
    have h := Int.gcd_mul_left g w v
    rw [← hw, ← hv] at h
    have h2 : ((Int.gcd a z : Nat) : Int) = (g.natAbs : Int) * ((Int.gcd w v : Nat) : Int) := by rw [h]; simp
    rw [hg] at h2
    have h3 : (g.natAbs : Int) = g := by omega
    rw [h3] at h2
    have h4 : g * 1 = g * ((Int.gcd w v : Nat) : Int) := by omega
    have h5 := Int.eq_of_mul_eq_mul_left (show g ≠ 0 by omega) h4
    omega
  rw [e1]
  constructor
  · intro h
    rw [hw, hv] at h
    have e2 : x * (g * v) = g * (x * v) := by grind
    rw [e2] at h
    have h2 : w ∣ x * v := Int.dvd_of_mul_dvd_mul_left (show g ≠ 0 by omega) h
    have h3 : w.natAbs ∣ x.natAbs * v.natAbs := by
      have := Int.natAbs_dvd_natAbs.mpr h2
      rwa [Int.natAbs_mul] at this
    have h4 : w.natAbs ∣ x.natAbs := Nat.Coprime.dvd_of_dvd_mul_right (show Nat.gcd w.natAbs v.natAbs = 1 from cop) h3
    exact Int.natAbs_dvd_natAbs.mp h4
  · rintro ⟨y, hy⟩
    rw [hw, hv, hy]
    exact ⟨y * v, by grind⟩
theorem gcd_up (f s t : Int) : ((Int.gcd (f + t * s) (f + t * s + s) : Nat) : Int) = gcdI f s := by
  have : Int.gcd (f + t * s) (f + t * s + s) = Int.gcd f s := by simp
  rw [this]; rfl
theorem gcd_down (f s t : Int) : ((Int.gcd (f + t * s + s) (f + t * s) : Nat) : Int) = gcdI f s := by
  rw [Int.gcd_comm]; exact gcd_up f s t
/-- (q z - 1) / a is one less than q z / a just where a goes into q z -/
theorem div_pred {a y : Int} (ha : 1 ≤ a) : y / a - (y - 1) / a = if a ∣ y then 1 else 0 := by
  obtain ⟨b1, b2⟩ := div_bd y a (by omega)
  by_cases h : a ∣ y
  · rw [if_pos h]
    obtain ⟨k, rfl⟩ := h
    have e1 : a * k / a = k := Int.mul_ediv_cancel_left _ (by omega)
    have e2 : (a * k - 1) / a = k - 1 := by
      refine div_is (by omega) ?_ ?_
      · have : (k - 1) * a = a * k - a := by grind
        omega
      · have : (k - 1) * a = a * k - a := by grind
        omega
    rw [e1, e2]; omega
  · rw [if_neg h]
    have hm : y / a * a ≠ y := fun q => h ⟨y / a, by rw [Int.mul_comm]; exact q.symm⟩
    have e2 : (y - 1) / a = y / a := div_is (by omega) (by omega) (by omega)
    rw [e2]; omega
theorem fmod_zero {x w : Int} (hw : 1 ≤ w) : x.fmod w = 0 ↔ w ∣ x := by
  rw [Int.fmod_eq_emod_of_nonneg _ (by omega)]
  exact ⟨Int.dvd_of_emod_eq_zero, Int.emod_eq_zero_of_dvd⟩
/-- x z / a against one less: by the sector -/
theorem over_step {f s t x : Int} (hf : 1 ≤ f) (hs : 0 ≤ s) (ht : 0 ≤ t) :
    x * (f + t * s + s) / (f + t * s) - (x * (f + t * s + s) - 1) / (f + t * s) = if decide (x.fmod ((f + t * s) / gcdI f s) = 0) = true then 1 else 0 := by
  have ts := mul_nn ht hs
  have ha : 1 ≤ f + t * s := by omega
  obtain ⟨w1, _⟩ := dvd_part (gcdI_pos hf) ha (gcdI_dz f s t)
  rw [div_pred ha]
  have e := dvd_gen (x := x) ha (gcd_up f s t)
  have e2 := fmod_zero (x := x) w1
  by_cases h : f + t * s ∣ x * (f + t * s + s)
  · rw [if_pos h, if_pos (by simpa using e2.mpr (e.mp h))]
  · rw [if_neg h, if_neg (by simpa using fun q => h (e.mpr (e2.mp q)))]
theorem under_step {f s t x : Int} (hf : 1 ≤ f) (hs : 0 ≤ s) (ht : 0 ≤ t) :
    x * (f + t * s) / (f + t * s + s) - (x * (f + t * s) - 1) / (f + t * s + s) = if decide (x.fmod ((f + t * s + s) / gcdI f s) = 0) = true then 1 else 0 := by
  have ts := mul_nn ht hs
  have ha : 1 ≤ f + t * s + s := by omega
  have e3 : f + t * s + s = f + (t + 1) * s := by grind
  obtain ⟨w1, _⟩ := dvd_part (gcdI_pos hf) ha (by rw [e3]; exact gcdI_dz f s (t + 1))
  rw [div_pred ha]
  have e := dvd_gen (x := x) ha (gcd_down f s t)
  have e2 := fmod_zero (x := x) w1
  by_cases h : f + t * s + s ∣ x * (f + t * s)
  · rw [if_pos h, if_pos (by simpa using e2.mpr (e.mp h))]
  · rw [if_neg h, if_neg (by simpa using fun q => h (e.mpr (e2.mp q)))]
/-- what a meeting is, by the upper one's and by the lower one's stretch -/
theorem meet_lo {u z l e : Int} (hz : 1 ≤ z) (he : 1 ≤ e) : (u * e / z ≤ l ∧ l ≤ ((u + 1) * e - 1) / z) ↔ meets u z l e := by
  obtain ⟨a1, a2⟩ := div_bd (u * e) z (by omega)
  obtain ⟨b1, b2⟩ := div_bd ((u + 1) * e - 1) z (by omega)
  constructor
  · rintro ⟨h1, h2⟩
    have c1 := Int.mul_le_mul_of_nonneg_right h1 (show 0 ≤ z by omega)
    have c2 := Int.mul_le_mul_of_nonneg_right h2 (show 0 ≤ z by omega)
    have x : (l + 1) * z = l * z + z := by grind
    exact meets_mk (by omega) (by omega)
  · intro h
    have h1 := meets_1 h
    have h2 := meets_2 h
    have x : (l + 1) * z = l * z + z := by grind
    constructor
    · apply Classical.byContradiction
      intro c
      have := Int.mul_le_mul_of_nonneg_right (show l + 1 ≤ u * e / z by omega) (show 0 ≤ z by omega)
      omega
    · apply Classical.byContradiction
      intro c
      have := Int.mul_le_mul_of_nonneg_right (show ((u + 1) * e - 1) / z + 1 ≤ l by omega) (show 0 ≤ z by omega)
      have y : (((u + 1) * e - 1) / z + 1) * z = ((u + 1) * e - 1) / z * z + z := by grind
      omega
theorem meet_hi {u z l e : Int} (hz : 1 ≤ z) (he : 1 ≤ e) : (l * z / e ≤ u ∧ u ≤ ((l + 1) * z - 1) / e) ↔ meets u z l e := by
  rw [meet_lo he hz]
  constructor
  · intro h; exact meets_mk (meets_2 h) (meets_1 h)
  · intro h; exact meets_mk (meets_2 h) (meets_1 h)
end Wm
namespace Wm
open PySem PySem.Spec PyProof.Rows L2
theorem bn_at {f s u l : Int} (hf : 1 ≤ f) (hs : 0 ≤ s) (hu : 0 ≤ u) (l0 : 0 ≤ l) (l1 : l < f + u * s + s) :
    tOf f s (Bg f s (u + 1) + l) = u + 1 ∧ bnL f s (Bg f s (u + 1) + l) = Bg f s u + l * (f + u * s) / (f + u * s + s) ∧ bnH f s (Bg f s (u + 1) + l) = Bg f s u + ((l + 1) * (f + u * s) - 1) / (f + u * s + s) := by
  have e4 : f + (u + 1) * s = f + u * s + s := by grind
  obtain ⟨e1, e2, e3⟩ := where_at (t := u + 1) (l := l) hf hs (by omega) l0 (by omega)
  have e5 : u + 1 - 1 = u := by omega
  unfold bnL bnH metL metH
  rw [e1, e2, e3, e4, e5]
  exact ⟨rfl, rfl, rfl⟩
theorem x_rNeB {H : Hp} {Q : VK} {a b : Prop} [Decidable a] [Decidable b] (h : Q (.bl (!decide (a ↔ b))) H) : rNe (.bl (decide a)) (.bl (decide b)) H Q := ⟨rfl, by
  have e : decide (V.bl (decide a) = V.bl (decide b)) = decide (a ↔ b) := by by_cases x : a <;> by_cases y : b <;> simp [x, y]
  rw [e]; exact h⟩
theorem x_rNeB0 {H : Hp} {Q : VK} {a : Prop} [Decidable a] (h : Q (.bl (!decide ¬ a)) H) : rNe (.bl (decide a)) (.bl false) H Q := ⟨rfl, by
  have e : decide (V.bl (decide a) = V.bl false) = decide ¬ a := by by_cases x : a <;> simp [x]
  rw [e]; exact h⟩
theorem x_rNe0B {H : Hp} {Q : VK} {a : Prop} [Decidable a] (h : Q (.bl (!decide ¬ a)) H) : rNe (.bl false) (.bl (decide a)) H Q := ⟨rfl, by
  have e : decide (V.bl false = V.bl (decide a)) = decide ¬ a := by by_cases x : a <;> simp [x]
  rw [e]; exact h⟩
theorem x_rNe00 {H : Hp} {Q : VK} (h : Q (.bl (!decide True)) H) : rNe (.bl false) (.bl false) H Q := ⟨rfl, by simpa using h⟩
end Wm

/-! Pairs and pieces, counted by one cell more. -/
namespace Wm
open PySem PySem.Spec PyProof.Rows L2
def onI (f s t l : Int) : Int := 1 + (if decide ((l * (f + t * s - s) / (f + t * s) + 1) * (f + t * s) < (l + 1) * (f + t * s - s)) = true then 1 else 0)
def newI (f s t l : Int) : Int := if decide (l.fmod ((f + t * s) / gcdI f s) = 0) = true then 1 else 0
theorem over_one {l z e : Int} (hz : 1 ≤ z) (he : 1 ≤ e) (hez : e ≤ z) : ((l + 1) * e - 1) / z = l * e / z + (if decide ((l * e / z + 1) * z < (l + 1) * e) = true then 1 else 0) := by
  obtain ⟨a1, a2⟩ := div_bd (l * e) z (by omega)
  have e1 : (l + 1) * e = l * e + e := by grind
  have x : (l * e / z + 1) * z = l * e / z * z + z := by grind
  have y : (l * e / z + 1) * z = l * e / z * z + z := by grind
  by_cases h : (l * e / z + 1) * z < (l + 1) * e
  · simp only [h, decide_true, if_true]
    exact div_is (by omega) (by omega) (by omega)
  · simp only [h, decide_false, Bool.false_eq_true, if_false, Int.add_zero]
    exact div_is (by omega) (by omega) (by omega)
theorem small_div {a z : Int} (h0 : 0 ≤ a) (h1 : a < z) : a / z = 0 := Int.ediv_eq_zero_of_lt h0 h1
/-- one cell more -/
theorem count_step {f s t l : Int} (hf : 1 ≤ f) (hs : 0 ≤ s) (ht : 0 ≤ t) (l0 : 0 ≤ l) (l1 : l < f + t * s) (h : 1 ≤ Bg f s t + l) :
    (t = 0 → paiI f s (Bg f s t + l + 1) - paiI f s (Bg f s t + l) = 0 ∧ pieI f s (Bg f s t + l + 1) - pieI f s (Bg f s t + l) = 0) ∧
    (0 < t → paiI f s (Bg f s t + l + 1) - paiI f s (Bg f s t + l) = onI f s t l ∧ pieI f s (Bg f s t + l + 1) - pieI f s (Bg f s t + l) = newI f s t l) := by
  have ec : Bg f s t + l + 1 - 1 = Bg f s t + l := by omega
  have gp := gcdI_pos (s := s) hf
  obtain ⟨w1, w2, w3⟩ := where_at hf hs ht l0 l1
  constructor
  · intro e
    subst e
    have b0 := bg0 f s
    have z0 : f + 0 * s = f := by grind
    rw [z0] at l1
    have t2 : tOf f s (Bg f s 0 + l - 1) = 0 := tOf_eq hf hs (Int.le_refl 0) (by omega) (by omega) (by omega)
    unfold paiI pieI
    rw [ec, if_pos w1, if_pos w1, if_pos t2, if_pos t2]
    exact ⟨by omega, by omega⟩
  · intro t1
    obtain ⟨u, rfl⟩ : ∃ u, t = u + 1 := ⟨t - 1, by omega⟩
    have u0 : 0 ≤ u := by omega
    have eZ : f + (u + 1) * s = f + u * s + s := by grind
    have us := mul_nn u0 hs
    have bs := bg_succ f s u
    have bu := bg_ge hf hs u0
    rw [eZ] at l1 w3
    obtain ⟨_, n2, n3⟩ := bn_at hf hs u0 l0 l1
    have hA : 1 ≤ f + u * s := by omega
    have hZ : 1 ≤ f + u * s + s := by omega
    have dz := gcdI_dz f s (u + 1)
    rw [eZ] at dz
    obtain ⟨p1, p2⟩ := dvd_part gp hZ dz
    obtain ⟨p3, p4⟩ := dvd_part gp hA (gcdI_dz f s u)
    have O := over_one (l := l) hZ hA (by omega)
    have eon : onI f s (u + 1) l = 1 + (((l + 1) * (f + u * s) - 1) / (f + u * s + s) - l * (f + u * s) / (f + u * s + s)) := by
      unfold onI
      rw [eZ, Int.add_sub_cancel, O]
      omega
    have enew : newI f s (u + 1) l = if decide (l.fmod ((f + u * s + s) / gcdI f s) = 0) = true then 1 else 0 := by unfold newI; rw [eZ]
    have U := under_step (x := l) hf hs u0
    rw [← enew] at U
    have sec : secN f s (Bg f s (u + 1) + l) = l / ((f + u * s + s) / gcdI f s) := by unfold secN; rw [w2, w3]
    have e1 : pieI f s (Bg f s (u + 1) + l + 1) = gcdI f s * u + l / ((f + u * s + s) / gcdI f s) + 1 := by
      unfold pieI
      rw [ec, w1, if_neg (by omega), sec, Int.add_sub_cancel]
    have e2 : paiI f s (Bg f s (u + 1) + l + 1) = (Bg f s (u + 1) + l + 1 - f) + (Bg f s u + ((l + 1) * (f + u * s) - 1) / (f + u * s + s) + 1) - pieI f s (Bg f s (u + 1) + l + 1) := by
      have q : ∀ n, ¬ tOf f s (n - 1) = 0 → paiI f s n = (n - f) + (bnH f s (n - 1) + 1) - pieI f s n := fun n hn => by unfold paiI; rw [if_neg hn]
      rw [q _ (by rw [ec, w1]; omega), ec, n3]
    by_cases hl : l = 0
    · subst hl
      have z1 : (0 : Int) / ((f + u * s + s) / gcdI f s) = 0 := by simp
      have z2 : ((0 + 1) * (f + u * s) - 1) / (f + u * s + s) = 0 := small_div (by omega) (by omega)
      have z3 : (0 : Int) * (f + u * s) / (f + u * s + s) = 0 := by simp
      have z4 : newI f s (u + 1) 0 = 1 := by rw [enew]; simp
      rw [z1] at e1
      rw [z2] at e2 eon
      rw [z3] at eon
      have ea : Bg f s (u + 1) + 0 = Bg f s u + (f + u * s) := by omega
      by_cases hu : u = 0
      · subst hu
        have b0 := bg0 f s
        have zz : f + 0 * s = f := by grind
        have t2 : tOf f s (Bg f s (0 + 1) + 0 - 1) = 0 := tOf_eq hf hs (Int.le_refl 0) (by omega) (by omega) (by omega)
        have e3 : pieI f s (Bg f s (0 + 1) + 0) = 0 := by unfold pieI; rw [if_pos t2]
        have e4 : paiI f s (Bg f s (0 + 1) + 0) = 0 := by unfold paiI; rw [if_pos t2]
        have z9 : gcdI f s * 0 = 0 := Int.mul_zero _
        rw [z9] at e1
        exact ⟨by omega, by omega⟩
      · obtain ⟨v, rfl⟩ : ∃ v, u = v + 1 := ⟨u - 1, by omega⟩
        have v0 : 0 ≤ v := by omega
        have vs := mul_nn v0 hs
        have eA : f + (v + 1) * s = f + v * s + s := by grind
        have bs2 := bg_succ f s v
        have el : Bg f s (v + 1 + 1) + 0 - 1 = Bg f s (v + 1) + (f + v * s + s - 1) := by rw [eA] at ea; omega
        obtain ⟨m1, m2, m3⟩ := bn_at (l := f + v * s + s - 1) hf hs v0 (by omega) (by omega)
        obtain ⟨x1, x2, x3⟩ := where_at (t := v + 1) (l := f + v * s + s - 1) hf hs (by omega) (by omega) (by rw [eA]; omega)
        rw [eA] at x3 p3 p4
        have q3 : (f + v * s + s - 1) / ((f + v * s + s) / gcdI f s) = gcdI f s - 1 := by
          generalize (f + v * s + s) / gcdI f s = w at *
          refine div_is (by omega) ?_ ?_
          · have : (gcdI f s - 1) * w = gcdI f s * w - w := by grind
            omega
          · have : (gcdI f s - 1) * w = gcdI f s * w - w := by grind
            omega
        have q4 : ((f + v * s + s - 1 + 1) * (f + v * s) - 1) / (f + v * s + s) = f + v * s - 1 := by
          refine div_is (by omega) ?_ ?_
          · have h1 : (f + v * s + s - 1 + 1) * (f + v * s) = (f + v * s) * (f + v * s + s) := by grind
            have h2 : (f + v * s - 1) * (f + v * s + s) = (f + v * s) * (f + v * s + s) - (f + v * s + s) := by grind
            omega
          · have h1 : (f + v * s + s - 1 + 1) * (f + v * s) = (f + v * s) * (f + v * s + s) := by grind
            have h2 : (f + v * s - 1) * (f + v * s + s) = (f + v * s) * (f + v * s + s) - (f + v * s + s) := by grind
            omega
        have sec2 : secN f s (Bg f s (v + 1) + (f + v * s + s - 1)) = gcdI f s - 1 := by unfold secN; rw [x2, x3, q3]
        have e3 : pieI f s (Bg f s (v + 1 + 1) + 0) = gcdI f s * (v + 1) := by
          unfold pieI
          rw [el, x1, if_neg (by omega), sec2]
          grind
        have e4 : paiI f s (Bg f s (v + 1 + 1) + 0) = (Bg f s (v + 1 + 1) + 0 - f) + (Bg f s v + (f + v * s - 1) + 1) - pieI f s (Bg f s (v + 1 + 1) + 0) := by
          have q : ∀ n, ¬ tOf f s (n - 1) = 0 → paiI f s n = (n - f) + (bnH f s (n - 1) + 1) - pieI f s n := fun n hn => by unfold paiI; rw [if_neg hn]
          rw [q _ (by rw [el, x1]; omega), el, m3, q4]
        exact ⟨by omega, by omega⟩
    · have el : Bg f s (u + 1) + l - 1 = Bg f s (u + 1) + (l - 1) := by omega
      obtain ⟨m1, m2, m3⟩ := bn_at (l := l - 1) hf hs u0 (by omega) (by omega)
      obtain ⟨x1, x2, x3⟩ := where_at (t := u + 1) (l := l - 1) hf hs (by omega) (by omega) (by rw [eZ]; omega)
      rw [eZ] at x3
      have sec2 : secN f s (Bg f s (u + 1) + (l - 1)) = (l - 1) / ((f + u * s + s) / gcdI f s) := by unfold secN; rw [x2, x3]
      have e3 : pieI f s (Bg f s (u + 1) + l) = gcdI f s * u + (l - 1) / ((f + u * s + s) / gcdI f s) + 1 := by
        unfold pieI
        rw [el, x1, if_neg (by omega), sec2, Int.add_sub_cancel]
      have e5 : l - 1 + 1 = l := by omega
      rw [e5] at m3
      have e4 : paiI f s (Bg f s (u + 1) + l) = (Bg f s (u + 1) + l - f) + (Bg f s u + (l * (f + u * s) - 1) / (f + u * s + s) + 1) - pieI f s (Bg f s (u + 1) + l) := by
        have q : ∀ n, ¬ tOf f s (n - 1) = 0 → paiI f s n = (n - f) + (bnH f s (n - 1) + 1) - pieI f s n := fun n hn => by unfold paiI; rw [if_neg hn]
        rw [q _ (by rw [el, x1]; omega), el, m3]
      have D := div_pred (y := l) p1
      have FZ := fmod_zero (x := l) p1
      have D2 : l / ((f + u * s + s) / gcdI f s) - (l - 1) / ((f + u * s + s) / gcdI f s) = newI f s (u + 1) l := by
        rw [D, enew]
        by_cases hd : (f + u * s + s) / gcdI f s ∣ l
        · rw [if_pos hd, if_pos (by simpa using FZ.mpr hd)]
        · rw [if_neg hd, if_neg (by simpa using fun q => hd (FZ.mp q))]
      exact ⟨by omega, by omega⟩
end Wm
namespace Wm
open PySem PySem.Spec PyProof.Rows L2
theorem bg_many {f s t : Int} (hs : 0 ≤ s) (ht : 0 ≤ t) : t * f ≤ Bg f s t := by
  unfold Bg
  have h := tri2 t
  have : 0 ≤ t * (t - 1) := by
    by_cases z : t = 0
    · subst z; simp
    · exact mul_nn ht (by omega)
  have : 0 ≤ s * (t * (t - 1) / 2) := mul_nn hs (by omega)
  omega
theorem pai_ge {f s t l : Int} (hf : 1 ≤ f) (hs : 0 ≤ s) (ht : 0 ≤ t) (l0 : 0 ≤ l) (l1 : l < f + t * s) : pieI f s (Bg f s t + l + 1) ≤ paiI f s (Bg f s t + l + 1) := by
  have ec : Bg f s t + l + 1 - 1 = Bg f s t + l := by omega
  have gp := gcdI_pos (s := s) hf
  have gl := gcdI_le (s := s) hf
  obtain ⟨w1, w2, w3⟩ := where_at hf hs ht l0 l1
  by_cases e : t = 0
  · unfold paiI pieI
    rw [ec, w1, if_pos e, if_pos e]
    exact Int.le_refl 0
  · obtain ⟨u, rfl⟩ : ∃ u, t = u + 1 := ⟨t - 1, by omega⟩
    have u0 : 0 ≤ u := by omega
    have eZ : f + (u + 1) * s = f + u * s + s := by grind
    have us := mul_nn u0 hs
    have bs := bg_succ f s u
    have b1 := bg_many (f := f) hs u0
    have b2 := bg_many (f := f) hs (show 0 ≤ u + 1 by omega)
    have b3 : (u + 1) * f = u * f + f := by grind
    have b4 : gcdI f s * u ≤ f * u := Int.mul_le_mul_of_nonneg_right gl u0
    have b5 : f * u = u * f := Int.mul_comm _ _
    rw [eZ] at l1 w3
    obtain ⟨_, n2, n3⟩ := bn_at hf hs u0 l0 l1
    have hA : 1 ≤ f + u * s := by omega
    have hZ : 1 ≤ f + u * s + s := by omega
    have dz := gcdI_dz f s (u + 1)
    rw [eZ] at dz
    obtain ⟨p1, p2⟩ := dvd_part gp hZ dz
    obtain ⟨p3, p4⟩ := dvd_part gp hA (gcdI_dz f s u)
    have sec : secN f s (Bg f s (u + 1) + l) = l / ((f + u * s + s) / gcdI f s) := by unfold secN; rw [w2, w3]
    have e1 : pieI f s (Bg f s (u + 1) + l + 1) = gcdI f s * u + l / ((f + u * s + s) / gcdI f s) + 1 := by
      unfold pieI
      rw [ec, w1, if_neg (by omega), sec, Int.add_sub_cancel]
    have e2 : paiI f s (Bg f s (u + 1) + l + 1) = (Bg f s (u + 1) + l + 1 - f) + (Bg f s u + ((l + 1) * (f + u * s) - 1) / (f + u * s + s) + 1) - pieI f s (Bg f s (u + 1) + l + 1) := by
      have q : ∀ n, ¬ tOf f s (n - 1) = 0 → paiI f s n = (n - f) + (bnH f s (n - 1) + 1) - pieI f s n := fun n hn => by unfold paiI; rw [if_neg hn]
      rw [q _ (by rw [ec, w1]; omega), ec, n3]
    have c1 : l / ((f + u * s + s) / gcdI f s) ≤ l := Int.ediv_le_self _ l0
    obtain ⟨d1, d2⟩ := div_bd l ((f + u * s + s) / gcdI f s) (by omega)
    have c2 : l / ((f + u * s + s) / gcdI f s) ≤ ((l + 1) * (f + u * s) - 1) / (f + u * s + s) := by
      rw [Int.le_ediv_iff_mul_le (by omega)]
      generalize (f + u * s + s) / gcdI f s = w at *
      generalize l / w = N at *
      have h1 : N * (f + u * s + s) = gcdI f s * (N * w) := by rw [← p2]; grind
      have h2 : gcdI f s * (N * w) ≤ gcdI f s * l := Int.mul_le_mul_of_nonneg_left d1 (by omega)
      have h3 : (l + 1) * gcdI f s ≤ (l + 1) * (f + u * s) := Int.mul_le_mul_of_nonneg_left (by omega) (by omega)
      have h4 : (l + 1) * gcdI f s = gcdI f s * l + gcdI f s := by grind
      omega
    omega
def sp__law_on : Sp := fun vs H Q _ => ∃ f s t l : Int, vs = [.int f, .int s, .int t, .int l] ∧ Bd 100 f ∧ Bd 100 s ∧ Bd 100 t ∧ Bd 300 l ∧ 1 ≤ f + t * s ∧ Q (.int (onI f s t l)) H
def sp__law_step_right (K : PySem.W.Frag) : Sp := fun vs H Q _ => ∃ (p : Addr) (f s t l : Int), vs = [.ref p, .int f, .int s, .int t, .int l] ∧ Drm K H p f s ∧ 0 ≤ t ∧ Bd 40 t ∧ 0 ≤ l ∧ l < f + t * s ∧ ∀ H', Same H H' → Q (.bl true) H'
section
variable {K : PySem.W.Frag} {H : Hp} {Q : VK} {E : XK} {p : Addr} {f s t l : Int}
theorem y_on (b1 : Bd 100 f) (b2 : Bd 100 s) (b3 : Bd 100 t) (b4 : Bd 300 l) (z : 1 ≤ f + t * s) (h : Q (.int (onI f s t l)) H) : sp__law_on [.int f, .int s, .int t, .int l] H Q E := ⟨f, s, t, l, rfl, b1, b2, b3, b4, z, h⟩
theorem y_step_right (d : Drm K H p f s) (t0 : 0 ≤ t) (bt : Bd 40 t) (l0 : 0 ≤ l) (l1 : l < f + t * s) (h : ∀ H', Same H H' → Q (.bl true) H') : sp__law_step_right K [.ref p, .int f, .int s, .int t, .int l] H Q E := ⟨p, f, s, t, l, rfl, d, t0, bt, l0, l1, h⟩
end
end Wm

/-! From which cell on nothing lies on the outward faces. -/
namespace Wm
open PySem PySem.Spec PyProof.Rows L2
/-- a cell by its turn and place -/
theorem cell_tl {f s c : Int} (hf : 1 ≤ f) (hs : 0 ≤ s) (hc : 0 ≤ c) : ∃ t l, c = Bg f s t + l ∧ 0 ≤ t ∧ 0 ≤ l ∧ l < f + t * s :=
  ⟨tOf f s c, plc f s c, by unfold plc; omega, tOf_nn hf hs hc, plc_nn hf hs hc, plc_lt hf hs hc⟩
theorem ab_next {f s c : Int} (hf : 1 ≤ f) (hs : 0 ≤ s) (hc : 0 ≤ c) : abL f s c ≤ abL f s (c + 1) ∧ abL f s (c + 1) ≤ abH f s c + 1 ∧ c < abL f s c := by
  obtain ⟨t, l, rfl, t0, l0, l1⟩ := cell_tl hf hs hc
  obtain ⟨aL, aH⟩ := ab_at hf hs t0 l0 l1
  obtain ⟨o0, o1, o2, _⟩ := over_facts l0 l1 (show f + t * s ≤ f + t * s + s by omega)
  have ts := mul_nn t0 hs
  have bs := bg_succ f s t
  have bs2 := bg_succ f s (t + 1)
  have eZ : f + (t + 1) * s = f + t * s + s := by grind
  rw [eZ] at bs2
  by_cases h : l + 1 < f + t * s
  · have e : Bg f s t + l + 1 = Bg f s t + (l + 1) := by omega
    obtain ⟨aL2, _⟩ := ab_at (l := l + 1) hf hs t0 (by omega) h
    rw [e, aL, aL2, aH]
    have m1 : l * (f + t * s + s) ≤ (l + 1) * (f + t * s + s) := Int.mul_le_mul_of_nonneg_right (by omega) (by omega)
    have m2 := Int.ediv_le_ediv (show 0 < f + t * s by omega) m1
    have d := div_pred (y := (l + 1) * (f + t * s + s)) (show 1 ≤ f + t * s by omega)
    have d2 : (l + 1) * (f + t * s + s) / (f + t * s) ≤ ((l + 1) * (f + t * s + s) - 1) / (f + t * s) + 1 := by
      split at d <;> omega
    exact ⟨by omega, by omega, by omega⟩
  · have e : Bg f s t + l + 1 = Bg f s (t + 1) + 0 := by omega
    obtain ⟨aL2, _⟩ := ab_at (t := t + 1) (l := 0) hf hs (by omega) (by omega) (by rw [eZ]; omega)
    have el : l + 1 = f + t * s := by omega
    have q : ((l + 1) * (f + t * s + s) - 1) / (f + t * s) = f + t * s + s - 1 := by
      rw [el]
      refine div_is (by omega) ?_ ?_
      · have h1 : (f + t * s) * (f + t * s + s) = (f + t * s + s) * (f + t * s) := Int.mul_comm _ _
        have h2 : (f + t * s + s - 1) * (f + t * s) = (f + t * s + s) * (f + t * s) - (f + t * s) := by grind
        omega
      · have h1 : (f + t * s) * (f + t * s + s) = (f + t * s + s) * (f + t * s) := Int.mul_comm _ _
        have h2 : (f + t * s + s - 1) * (f + t * s) = (f + t * s + s) * (f + t * s) - (f + t * s) := by grind
        omega
    have z : (0 : Int) * (f + (t + 1) * s + s) / (f + (t + 1) * s) = 0 := by simp
    rw [e, aL, aL2, aH, q, z]
    exact ⟨by omega, by omega, by omega⟩
theorem ab_mono {f s : Int} (hf : 1 ≤ f) (hs : 0 ≤ s) {c : Int} (hc : 0 ≤ c) (k : Nat) : abL f s c ≤ abL f s (c + k) := by
  induction k with
  | zero => simp
  | succ k ih =>
    have := (ab_next hf hs (show 0 ≤ c + (k : Int) by omega)).1
    have e : c + ((k + 1 : Nat) : Int) = c + (k : Int) + 1 := by omega
    rw [e]
    omega
theorem ab_le {f s c d : Int} (hf : 1 ≤ f) (hs : 0 ≤ s) (hc : 0 ≤ c) (h : c ≤ d) : abL f s c ≤ abL f s d := by
  have := ab_mono hf hs hc (d - c).toNat
  have e : c + ((d - c).toNat : Int) = d := by omega
  rwa [e] at this
/-- the first bare cell -/
def Bare (f s n b : Int) : Prop := 0 ≤ b ∧ b ≤ n - 1 ∧ n ≤ abL f s b ∧ (0 < b → abL f s (b - 1) < n)
theorem bare_count {f s n b : Int} (hf : 1 ≤ f) (hs : 0 ≤ s) (hn : 1 ≤ n) (h : Bare f s n b) : paiI f s n + pieI f s n = n - min n f + b := by
  obtain ⟨b0, b1, b2, b3⟩ := h
  obtain ⟨t, l, hc, t0, l0, l1⟩ := cell_tl hf hs (show 0 ≤ n - 1 by omega)
  obtain ⟨w1, w2, w3⟩ := where_at hf hs t0 l0 l1
  rw [← hc] at w1 w2 w3
  have B0 := bg0 f s
  by_cases e : t = 0
  · subst e
    have z0 : f + 0 * s = f := by grind
    rw [z0] at l1
    have : b = 0 := by
      apply Classical.byContradiction
      intro q
      have h1 := b3 (by omega)
      obtain ⟨aL, _⟩ := ab_at (t := 0) (l := 0) hf hs (by omega) (by omega) (by omega)
      have h2 := ab_le hf hs (show 0 ≤ Bg f s 0 + 0 by omega) (show Bg f s 0 + 0 ≤ b - 1 by omega)
      have z : (0 : Int) * (f + 0 * s + s) / (f + 0 * s) = 0 := by simp
      rw [aL, z] at h2
      have := bg_succ f s 0
      omega
    unfold paiI pieI
    rw [if_pos w1, if_pos w1]
    omega
  · obtain ⟨u, rfl⟩ : ∃ u, t = u + 1 := ⟨t - 1, by omega⟩
    have u0 : 0 ≤ u := by omega
    have eZ : f + (u + 1) * s = f + u * s + s := by grind
    have us := mul_nn u0 hs
    have bs := bg_succ f s u
    have bs2 := bg_succ f s (u + 1)
    have bu := bg_ge hf hs u0
    have bm := bg_many (f := f) hs (show 0 ≤ u + 1 by omega)
    have bm2 : (u + 1) * f = u * f + f := by grind
    have uf := mul_nn u0 (show 0 ≤ f by omega)
    rw [eZ] at l1 w3 bs2
    obtain ⟨_, n2, n3⟩ := bn_at hf hs u0 l0 l1
    rw [← hc] at n3
    have H0 : 0 ≤ ((l + 1) * (f + u * s) - 1) / (f + u * s + s) := Int.ediv_nonneg (by have := mul_ge1 (show 1 ≤ l + 1 by omega) (show 1 ≤ f + u * s by omega); omega) (by omega)
    obtain ⟨d1, d2⟩ := div_bd ((l + 1) * (f + u * s) - 1) (f + u * s + s) (by omega)
    have m0 : (l + 1) * (f + u * s) ≤ (f + u * s + s) * (f + u * s) := Int.mul_le_mul_of_nonneg_right (by omega) (by omega)
    have m1 : (f + u * s + s) * (f + u * s) = (f + u * s) * (f + u * s + s) := Int.mul_comm _ _
    have H1 : ((l + 1) * (f + u * s) - 1) / (f + u * s + s) < f + u * s := by
      rw [Int.ediv_lt_iff_lt_mul (by omega)]
      omega
    have main : b = Bg f s u + ((l + 1) * (f + u * s) - 1) / (f + u * s + s) + 1 := by
      generalize ((l + 1) * (f + u * s) - 1) / (f + u * s + s) = h at *
      have x1 : (h + 1) * (f + u * s + s) = h * (f + u * s + s) + (f + u * s + s) := by grind
      -- at h itself
      obtain ⟨aL, _⟩ := ab_at (l := h) hf hs u0 H0 H1
      have p1 : h * (f + u * s + s) / (f + u * s) ≤ l := by
        have : h * (f + u * s + s) / (f + u * s) < l + 1 := by
          rw [Int.ediv_lt_iff_lt_mul (by omega)]
          omega
        omega
      -- behind it
      have p2 : n ≤ abL f s (Bg f s u + h + 1) := by
        by_cases hh : h + 1 < f + u * s
        · have e2 : Bg f s u + h + 1 = Bg f s u + (h + 1) := by omega
          obtain ⟨aL2, _⟩ := ab_at (l := h + 1) hf hs u0 (by omega) hh
          rw [e2, aL2]
          have : l + 1 ≤ (h + 1) * (f + u * s + s) / (f + u * s) := by
            rw [Int.le_ediv_iff_mul_le (by omega)]
            omega
          omega
        · have e2 : Bg f s u + h + 1 = Bg f s (u + 1) + 0 := by omega
          obtain ⟨aL2, _⟩ := ab_at (t := u + 1) (l := 0) hf hs (by omega) (by omega) (by rw [eZ]; omega)
          have z : (0 : Int) * (f + (u + 1) * s + s) / (f + (u + 1) * s) = 0 := by simp
          rw [e2, aL2, z]
          omega
      apply Classical.byContradiction
      intro ne
      rcases (by omega : b ≤ Bg f s u + h ∨ Bg f s u + h + 1 ≤ b - 1) with q | q
      · have := ab_le hf hs b0 q
        rw [aL] at this
        omega
      · have := ab_le hf hs (show 0 ≤ Bg f s u + h + 1 by omega) q
        have := b3 (by omega)
        omega
    have q : paiI f s n = (n - f) + (bnH f s (n - 1) + 1) - pieI f s n := by unfold paiI; rw [if_neg (by rw [w1]; omega)]
    rw [q, n3, main]
    omega
theorem bare_last {f s n b : Int} (hf : 1 ≤ f) (hs : 0 ≤ s) (h : Bare f s n b) (hb : 0 < b) : ¬ n ≤ abL f s (b - 1) ∧ min (abH f s (b - 1)) (n - 1) = n - 1 := by
  obtain ⟨b0, b1, b2, b3⟩ := h
  have := (ab_next hf hs (show 0 ≤ b - 1 by omega)).2.1
  have e : b - 1 + 1 = b := by omega
  rw [e] at this
  have := b3 hb
  exact ⟨by omega, by omega⟩
def sp__law_bare_from (K : PySem.W.Frag) : Sp := fun vs H Q _ => ∃ (p : Addr) (f s n : Int), vs = [.ref p, .int n] ∧ Drm K H p f s ∧ 1 ≤ n ∧ n < 2 ^ 500 ∧ ∀ b H', Same H H' → Bare f s n b → Q (.int b) H'
theorem y_bare_from {K : PySem.W.Frag} {H : Hp} {Q : VK} {E : XK} {p : Addr} {f s n : Int} (d : Drm K H p f s) (n1 : 1 ≤ n) (n2 : n < 2 ^ 500) (h : ∀ b H', Same H H' → Bare f s n b → Q (.int b) H') : sp__law_bare_from K [.ref p, .int n] H Q E := ⟨p, f, s, n, rfl, d, n1, n2, h⟩
end Wm

/-! Faces, their grounds, their pieces. -/
namespace Wm
open PySem PySem.Spec PyProof.Rows L2
/-- a side's word: inward, or not -/
def sdS (i : Bool) : Str := if i = true then "in" else "out"
section
variable {K : PySem.W.Frag} {H : Hp} {Q : VK} {p q : Addr} {i j : Bool}
theorem sd_eq : decide (V.str (sdS i) = V.str (sdS j)) = (i == j) := by
  cases i <;> cases j <;> decide +kernel
theorem x_rEqIn (h : Q (.bl i) H) : rEq (.str (sdS i)) (.str "in") H Q := ⟨rfl, by
  have e : decide (V.str (sdS i) = V.str "in") = i := by cases i <;> decide +kernel
  rw [e]; exact h⟩
theorem x_inSd (e : H p = some (.tup [.str "in", .str "out"])) (h : Q (.bl true) H) : rIn K false (.str (sdS i)) (.ref p) H Q := ⟨p, _, rfl, .inr (.inl (.inl e)), rfl, rfl, by
  have e2 : inV (.str (sdS i)) [.str "in", .str "out"] = true := by cases i <;> decide +kernel
  rw [e2]; exact h⟩
theorem x_isiS {x : Str} {T : String} {b : Bool} (e : kitB "str" T = some b) (h : Q (.bl b) H) : rIsi K [.str x, .ty T] H Q := ⟨_, _, _, _, b, rfl, .ty T, .base (.str x), kit_ty e, h⟩
theorem x_iteB {A B : Prop} {k : Bool} (h1 : k = true → A) (h2 : k = false → B) : if k = true then A else B := by
  cases k
  · exact h2 rfl
  · exact h1 rfl
end
/-- a face lies at q -/
abbrev Fc (H : Hp) (q : Addr) (c : Int) (i : Bool) : Prop := H q = some (.tup [.int c, .str (sdS i)])
/-- a pair, or none -/
def PairV (H : Hp) (v : V) : Option (Int × Int) → Prop
  | none => v = .non
  | some (a, b) => ∃ r, v = .ref r ∧ H r = some (.tup [.int a, .int b])
theorem PairV.same {H H' : Hp} (s : Same H H') {v : V} : ∀ {o : Option (Int × Int)}, PairV H v o → PairV H' v o
  | none, h => h
  | some (_, _), ⟨r, e, h⟩ => ⟨r, e, s _ _ h⟩
/-- whether a face touches nothing; its ground -/
def gNo (f s n c : Int) (i : Bool) : Prop := if i = true then tOf f s c = 0 else n ≤ abL f s c
instance (f s n c : Int) (i : Bool) : Decidable (gNo f s n c i) := by unfold gNo; exact inferInstance
def gL (f s c : Int) (i : Bool) : Int := if i = true then bnL f s c else c
def gH (f s c : Int) (i : Bool) : Int := if i = true then bnH f s c else c
def rsI (i : Bool) : Int := if i = true then 1 else 0
/-- the piece above a ground's first cell -/
def prt (f s G : Int) : Int := (f + (tOf f s G + 1) * s) / gcdI f s
def pLo (f s G : Int) : Int := Bg f s (tOf f s G) + secN f s G * (siz f s G / gcdI f s)
def pFi (f s G : Int) : Int := Bg f s (tOf f s G + 1) + secN f s G * prt f s G
def pLa (f s n G : Int) : Int := min (pFi f s G + prt f s G) n - 1
def pcL (f s n c : Int) (i : Bool) : Option (Int × Int) := if gNo f s n c i then (if i = true then none else some (c, c)) else some (pLo f s (gL f s c i), bnH f s (pLa f s n (gL f s c i)))
def pcU (f s n c : Int) (i : Bool) : Option (Int × Int) := if gNo f s n c i then (if i = true then some (c, c) else none) else some (pFi f s (gL f s c i), pLa f s n (gL f s c i))
theorem div_mul_le' {a b : Int} (hb : 0 < b) : a / b * b ≤ a := (div_bd a b hb).1
theorem ab_bn {f s c : Int} (hf : 1 ≤ f) (hs : 0 ≤ s) (hc : 0 ≤ c) (ht : ¬ tOf f s c = 0) : 0 ≤ bnL f s c ∧ bnL f s c < c ∧ abL f s (bnL f s c) ≤ c := by
  obtain ⟨t, l, e, t0, l0, l1⟩ := cell_tl hf hs hc
  obtain ⟨e1, e2, e3⟩ := where_at hf hs t0 l0 l1
  rw [← e] at e1
  obtain ⟨u, rfl⟩ : ∃ u, t = u + 1 := ⟨t - 1, by omega⟩
  have u0 : 0 ≤ u := by omega
  have ez : f + (u + 1) * s = f + u * s + s := by grind
  have us := mul_nn u0 hs
  rw [ez] at l1
  have eb : bnL f s c = Bg f s u + l * (f + u * s) / (f + u * s + s) := by
    rw [e]
    unfold bnL metL
    rw [e2, e3, where_at hf hs t0 l0 (by omega) |>.1, ez, show u + 1 - 1 = u by omega]
  have hz : 0 < f + u * s + s := by omega
  have ha : 0 < f + u * s := by omega
  have lm : 0 ≤ l * (f + u * s) := mul_nn l0 (by omega)
  have q0 : 0 ≤ l * (f + u * s) / (f + u * s + s) := Int.ediv_nonneg lm (by omega)
  obtain ⟨d1, d2⟩ := div_bd (l * (f + u * s)) (f + u * s + s) hz
  have q1 : l * (f + u * s) / (f + u * s + s) < f + u * s := by
    apply Int.ediv_lt_of_lt_mul hz
    have := Int.mul_le_mul_of_nonneg_right (show l + 1 ≤ f + u * s + s by omega) (show 0 ≤ f + u * s by omega)
    have e5 : (l + 1) * (f + u * s) = l * (f + u * s) + (f + u * s) := by grind
    have e6 : (f + u * s) * (f + u * s + s) = (f + u * s + s) * (f + u * s) := Int.mul_comm _ _
    omega
  have bb := bg_ge hf hs u0
  have bs := bg_succ f s u
  refine ⟨by omega, by omega, ?_⟩
  rw [eb, (ab_at hf hs u0 q0 q1).1, e]
  have : l * (f + u * s) / (f + u * s + s) * (f + u * s + s) / (f + u * s) ≤ l := by
    have h := Int.ediv_le_ediv ha d1
    rw [Int.mul_ediv_cancel _ (by omega)] at h
    exact h
  omega
theorem piece_facts {f s n G : Int} (hf : 1 ≤ f) (hs : 0 ≤ s) (hG : 0 ≤ G) (hn : abL f s G < n) :
    0 ≤ secN f s G ∧ 1 ≤ siz f s G / gcdI f s ∧ 1 ≤ prt f s G ∧ pFi f s G ≤ abL f s G ∧ pFi f s G ≤ pLa f s n G ∧ pLa f s n G < n ∧ 0 < pFi f s G ∧ tOf f s (pLa f s n G) = tOf f s G + 1 ∧
    pLo f s G ≤ G ∧ G < pLo f s G + siz f s G / gcdI f s ∧ secN f s G + 1 ≤ gcdI f s ∧ gcdI f s * prt f s G = f + (tOf f s G + 1) * s ∧ gcdI f s * (siz f s G / gcdI f s) = siz f s G := by
  obtain ⟨t, l, e, t0, l0, l1⟩ := cell_tl hf hs hG
  obtain ⟨e1, e2, e3⟩ := where_at hf hs t0 l0 l1
  have ea := (ab_at hf hs t0 l0 l1).1
  rw [← e] at e1 e2 e3 ea
  have ts := mul_nn t0 hs
  have gg := gcdI_pos (s := s) hf
  have ez : f + (t + 1) * s = f + t * s + s := by grind
  obtain ⟨w1, w2⟩ := dvd_part gg (show 1 ≤ f + t * s by omega) (gcdI_dz f s t)
  obtain ⟨v1, v2⟩ := dvd_part gg (show 1 ≤ f + (t + 1) * s by omega) (gcdI_dz f s (t + 1))
  unfold pLa pFi pLo secN prt at *
  rw [e1, e2, e3]
  rw [ea] at hn ⊢
  rw [ez] at v1 v2 ⊢
  have bb := bg_ge hf hs t0
  have b1 := bg_succ f s t
  have b2 := bg_succ f s (t + 1)
  rw [ez] at b2
  generalize gcdI f s = g at *
  generalize hA : (f + t * s) / g = A at *
  generalize hB : (f + t * s + s) / g = B at *
  obtain ⟨d1, d2⟩ := div_bd l A (by omega)
  have m0 : 0 ≤ l / A := Int.ediv_nonneg l0 (by omega)
  have m1 : l / A < g := by
    apply Int.ediv_lt_of_lt_mul (by omega)
    omega
  generalize l / A = m at *
  have mB := mul_nn m0 (show 0 ≤ B by omega)
  have h1 : m * B ≤ l * (f + t * s + s) / (f + t * s) := by
    apply Int.le_ediv_of_mul_le (by omega)
    have : m * B * (f + t * s) = m * A * (f + t * s + s) := by
      have h3 : m * B * (g * A) = m * A * (g * B) := by grind
      rw [w2, v2] at h3
      exact h3
    rw [this]
    exact Int.mul_le_mul_of_nonneg_right d1 (by omega)
  have h2 : m * B + B ≤ f + t * s + s := by
    have := Int.mul_le_mul_of_nonneg_right (show m + 1 ≤ g by omega) (show 0 ≤ B by omega)
    have e5 : (m + 1) * B = m * B + B := by grind
    omega
  refine ⟨m0, w1, v1, by omega, by omega, by omega, by omega, ?_, by omega, by omega, by omega, v2, w2⟩
  refine tOf_eq hf hs (by omega) ?_ ?_ ?_ <;> omega
section
variable (K : PySem.W.Frag)
def sp_is_word : Sp := fun vs H Q _ => ∃ (p : Addr) (i : Bool), vs = [.ref p, .str (sdS i)] ∧ H p = some (.tup [.str "in", .str "out"]) ∧ Q (.bl true) H
def sp_is_face : Sp := fun vs H Q _ => ∃ (n : Int) (q : Addr) (c : Int) (i : Bool), vs = [.int n, .ref q] ∧ Fc H q c i ∧ 0 ≤ c ∧ c < n ∧ ∀ H', Same H H' → Q (.bl true) H'
def sp_check_face : Sp := fun vs H Q _ => ∃ (n : Int) (q : Addr) (c : Int) (i : Bool), vs = [.int n, .ref q] ∧ Fc H q c i ∧ 0 ≤ c ∧ c < n ∧ ∀ H', Same H H' → Q .non H'
def sp__rise : Sp := fun vs H Q _ => ∃ (q : Addr) (c : Int) (i : Bool), vs = [.ref q] ∧ Fc H q c i ∧ Q (.int (rsI i)) H
def sp__lone : Sp := fun vs H Q _ => ∃ (q : Addr) (c : Int) (i : Bool), vs = [.ref q] ∧ Fc H q c i ∧ ∀ (r : Addr) (H' : Hp) (v w : V), Same H H' → H' r = some (.tup [v, w]) → PairV H' v (if i = true then none else some (c, c)) → PairV H' w (if i = true then some (c, c) else none) → Q (.ref r) H'
def sp__ground : Sp := fun vs H Q _ => ∃ (p : Addr) (f s n : Int) (q : Addr) (c : Int) (i : Bool), vs = [.ref p, .int n, .ref q] ∧ Drm K H p f s ∧ Fc H q c i ∧ 0 ≤ c ∧ c < n ∧ n < 2 ^ 700 ∧
  (gNo f s n c i → ∀ H', Same H H' → Q .non H') ∧ (¬ gNo f s n c i → ∀ (r : Addr) (H' : Hp), Same H H' → H' r = some (.tup [.int (gL f s c i), .int (gH f s c i)]) → Q (.ref r) H')
def sp_piece : Sp := fun vs H Q _ => ∃ (p : Addr) (f s n : Int) (q : Addr) (c : Int) (i : Bool), vs = [.ref p, .int n, .ref q] ∧ Drm K H p f s ∧ Fc H q c i ∧ 0 ≤ c ∧ c < n ∧ n < 2 ^ 600 ∧
  ∀ (r : Addr) (H' : Hp) (v w : V), Same H H' → H' r = some (.tup [v, w]) → PairV H' v (pcL f s n c i) → PairV H' w (pcU f s n c i) → Q (.ref r) H'
end
section
variable {K : PySem.W.Frag} {H : Hp} {Q : VK} {E : XK} {p q : Addr} {f s n c : Int} {i : Bool}
theorem y_is_word (e : H p = some (.tup [.str "in", .str "out"])) (h : Q (.bl true) H) : sp_is_word [.ref p, .str (sdS i)] H Q E := ⟨p, i, rfl, e, h⟩
theorem y_is_face (e : Fc H q c i) (h0 : 0 ≤ c) (h1 : c < n) (h : ∀ H', Same H H' → Q (.bl true) H') : sp_is_face [.int n, .ref q] H Q E := ⟨n, q, c, i, rfl, e, h0, h1, h⟩
theorem y_check_face (e : Fc H q c i) (h0 : 0 ≤ c) (h1 : c < n) (h : ∀ H', Same H H' → Q .non H') : sp_check_face [.int n, .ref q] H Q E := ⟨n, q, c, i, rfl, e, h0, h1, h⟩
theorem y_rise (e : Fc H q c i) (h : Q (.int (rsI i)) H) : sp__rise [.ref q] H Q E := ⟨q, c, i, rfl, e, h⟩
theorem y_lone (e : Fc H q c i) (h : ∀ (r : Addr) (H' : Hp) (v w : V), Same H H' → H' r = some (.tup [v, w]) → PairV H' v (if i = true then none else some (c, c)) → PairV H' w (if i = true then some (c, c) else none) → Q (.ref r) H') : sp__lone [.ref q] H Q E := ⟨q, c, i, rfl, e, h⟩
theorem y_ground (d : Drm K H p f s) (e : Fc H q c i) (h0 : 0 ≤ c) (h1 : c < n) (h2 : n < 2 ^ 700) (h : gNo f s n c i → ∀ H', Same H H' → Q .non H') (h' : ¬ gNo f s n c i → ∀ (r : Addr) (H' : Hp), Same H H' → H' r = some (.tup [.int (gL f s c i), .int (gH f s c i)]) → Q (.ref r) H') : sp__ground K [.ref p, .int n, .ref q] H Q E := ⟨p, f, s, n, q, c, i, rfl, d, e, h0, h1, h2, h, h'⟩
theorem y_piece (d : Drm K H p f s) (e : Fc H q c i) (h0 : 0 ≤ c) (h1 : c < n) (h2 : n < 2 ^ 600) (h : ∀ (r : Addr) (H' : Hp) (v w : V), Same H H' → H' r = some (.tup [v, w]) → PairV H' v (pcL f s n c i) → PairV H' w (pcU f s n c i) → Q (.ref r) H') : sp_piece K [.ref p, .int n, .ref q] H Q E := ⟨p, f, s, n, q, c, i, rfl, d, e, h0, h1, h2, h⟩
end
end Wm

/-! How far apart, and reach. -/
namespace Wm
open PySem PySem.Spec PyProof.Rows L2
section
variable {X : Cx} {K : PySem.W.Frag} {H : Hp} {Q : VK} {p q : Addr} {i j : Bool}
theorem cl_max3 (hc : X.calm = true) : CallR X (.builtin "max") (rNuC3 nuMax3) := call_max3Nu hc
theorem x_max3 {a b c : Int} (h : Q (.int (max (max a b) c)) H) : rNuC3 nuMax3 [.int a, .int b, .int c] H Q := ⟨_, _, _, .int (max (max a b) c), rfl, by
  have e2 : ∀ x y : Int, nuMax2 (.int x) (.int y) = some (.int (max x y)) := by
    intro x y
    simp only [nuMax2, nuLt, nuCB, Option.map_some, decide_eq_true_eq]
    by_cases g : x < y
    · rw [if_pos g, show max x y = y by omega]
    · rw [if_neg g, show max x y = x by omega]
  unfold nuMax3
  rw [e2, Option.bind_some, e2], h⟩
/-- what a pair is, or none -/
def pdO : Option (Int × Int) → PyData
  | none => .none
  | some (a, b) => .tuple ([a, b].map PyData.int)
theorem PairV.dp {v : V} : ∀ {o : Option (Int × Int)}, PairV H v o → Dp K H v (pdO o)
  | none, h => by cases (show v = .non from h); exact .non
  | some (a, b), ⟨r, e, h⟩ => by subst e; exact .tup (.inl (.inl h)) (dpAll_ints [a, b])
theorem eqv_pd : ∀ o u : Option (Int × Int), PyData.eqv (pdO o) (pdO u) = decide (o = u)
  | none, none => by simp [pdO, PyData.eqv]
  | none, some (_, _) => by simp [pdO, PyData.eqv]
  | some (_, _), none => by simp [pdO, PyData.eqv]
  | some (a, b), some (c, d) => by
    unfold pdO
    rw [PyData.eqv, eqvAll_ints]
    simp
theorem lay_pd : ∀ o : Option (Int × Int), PyData.canLay0 (pdO o) = true
  | none => by simp [pdO, PyData.canLay0]
  | some (a, b) => by unfold pdO; unfold PyData.canLay0; simp [PyData.canLayAll0, PyData.canLay0]
theorem depth_pd : ∀ o : Option (Int × Int), PyData.depth (pdO o) ≤ 1
  | none => by simp [pdO, PyData.depth]
  | some (a, b) => by unfold pdO PyData.depth; simp [PyData.depthAll, PyData.depth]
theorem shaped_pp (o u : Option (Int × Int)) : SeqAt.shaped (.tuple [pdO o, pdO u]) = true := by
  unfold SeqAt.shaped
  have h1 : PyData.canLay0 (.tuple [pdO o, pdO u]) = true := by
    unfold PyData.canLay0
    simp [PyData.canLayAll0, lay_pd]
  have h2 : PyData.depth (.tuple [pdO o, pdO u]) ≤ 2 := by
    have a := depth_pd o
    have b := depth_pd u
    unfold PyData.depth
    simp [PyData.depthAll]
    omega
  rw [h1]
  simp only [Bool.true_and, decide_eq_true_eq]
  exact Nat.le_trans h2 (by decide)
theorem x_nePP {v w v' w' : V} {o u o' u' : Option (Int × Int)} (hp : H p = some (.tup [v, w])) (hq : H q = some (.tup [v', w'])) (a : PairV H v o) (b : PairV H w u) (a' : PairV H v' o') (b' : PairV H w' u')
    (h : Q (.bl (!decide (o = o' ∧ u = u'))) H) : rNeD K (.ref p) (.ref q) H Q :=
  ⟨_, _, .tup (.inl (.inl hp)) (.cons a.dp (.cons b.dp .nil)), .tup (.inl (.inl hq)) (.cons a'.dp (.cons b'.dp .nil)), shaped_pp o u, shaped_pp o' u', by
    have e : PyData.eqv (.tuple [pdO o, pdO u]) (.tuple [pdO o', pdO u']) = decide (o = o' ∧ u = u') := by
      rw [PyData.eqv]
      simp only [PyData.eqvAll, eqv_pd]
      by_cases c : o = o' <;> by_cases d : u = u' <;> simp [c, d]
    rw [e]; exact h⟩
theorem shaped_fc (c : Int) (i : Bool) : SeqAt.shaped (.tuple [.int c, .str (sdS i)]) = true := by
  have h0 : PyData.strOk (sdS i) = true := by cases i <;> decide +kernel
  generalize sdS i = x at *
  unfold SeqAt.shaped
  have h1 : PyData.canLay0 (.tuple [.int c, .str x]) = true := by
    unfold PyData.canLay0
    simp [PyData.canLayAll0, PyData.canLay0, h0]
  have h2 : PyData.depth (.tuple [.int c, .str x]) = 1 := by
    unfold PyData.depth
    simp [PyData.depthAll, PyData.depth]
  rw [h1, h2]
  decide
theorem x_eqF {c d : Int} (hp : Fc H p c i) (hq : Fc H q d j) (h : Q (.bl (decide (c = d ∧ i = j))) H) : rEqD K (.ref p) (.ref q) H Q :=
  ⟨_, _, .tup (.inl (.inl hp)) (.cons (.int c) (.cons (.str _) .nil)), .tup (.inl (.inl hq)) (.cons (.int d) (.cons (.str _) .nil)), shaped_fc _ _, shaped_fc _ _, by
    have e : PyData.eqv (.tuple [.int c, .str (sdS i)]) (.tuple [.int d, .str (sdS j)]) = decide (c = d ∧ i = j) := by
      rw [PyData.eqv]
      simp only [PyData.eqvAll, PyData.eqv]
      have e2 : (sdS i == sdS j) = (i == j) := by cases i <;> cases j <;> decide +kernel
      rw [e2]
      cases i <;> cases j <;> simp <;> (rw [Bool.eq_iff_iff]; simp)
    rw [e]; exact h⟩
end
/-- whether two faces hang together -/
def hang (f s n c : Int) (i : Bool) (d : Int) (j : Bool) : Prop := pcL f s n c i = pcL f s n d j ∧ pcU f s n c i = pcU f s n d j
instance (f s n c : Int) (i : Bool) (d : Int) (j : Bool) : Decidable (hang f s n c i d j) := by unfold hang; exact inferInstance
def apI (f s c : Int) (i : Bool) (d : Int) (j : Bool) : Int := if c = d ∧ i = j then 0 else rsI i + 2 * max (max 0 (gL f s d j - gH f s c i)) (gL f s c i - gH f s d j) + rsI j
theorem hang_no {f s n c : Int} {i : Bool} {d : Int} {j : Bool} (h : hang f s n c i d j) (ne : ¬ (c = d ∧ i = j)) : ¬ gNo f s n c i ∧ ¬ gNo f s n d j := by
  obtain ⟨h1, h2⟩ := h
  unfold pcL at h1
  unfold pcU at h2
  by_cases a : gNo f s n c i <;> by_cases b : gNo f s n d j
  · rw [if_pos a, if_pos b] at h1 h2
    cases i <;> cases j <;> simp at h1 h2 ne <;> exact absurd (by first | exact h1 | exact h2) ne
  · rw [if_pos a, if_neg b] at h1 h2
    cases i <;> simp at h1 h2
  · rw [if_neg a, if_pos b] at h1 h2
    cases j <;> simp at h1 h2
  · exact ⟨a, b⟩
theorem gL_nn {f s n c : Int} {i : Bool} (hf : 1 ≤ f) (hs : 0 ≤ s) (hc : 0 ≤ c) (h1 : c < n) (h : ¬ gNo f s n c i) : 0 ≤ gL f s c i ∧ gL f s c i ≤ c ∧ abL f s (gL f s c i) < n := by
  cases i
  · exact ⟨hc, Int.le_refl _, by unfold gNo at h; simp at h; exact h⟩
  · unfold gNo at h
    simp at h
    obtain ⟨a1, a2, a3⟩ := ab_bn hf hs hc h
    exact ⟨a1, Int.le_of_lt a2, by show abL f s (bnL f s c) < n; omega⟩
section
variable (K : PySem.W.Frag)
def sp_apart : Sp := fun vs H Q _ => ∃ (p : Addr) (f s n : Int) (q : Addr) (c : Int) (i : Bool) (r : Addr) (d : Int) (j : Bool), vs = [.ref p, .int n, .ref q, .ref r] ∧ Drm K H p f s ∧ Fc H q c i ∧ Fc H r d j ∧ 0 ≤ c ∧ c < n ∧ 0 ≤ d ∧ d < n ∧ n < 2 ^ 600 ∧
  (¬ hang f s n c i d j → ∀ H', Same H H' → Q .non H') ∧ (hang f s n c i d j → ∀ H', Same H H' → Q (.int (apI f s c i d j)) H')
/-- within so many touches of a ground -/
def wdL (lo g t : Int) : Int := max lo (g - t / 2)
def wdH (hi g t : Int) : Int := min hi (g + t / 2)
def sp__widened : Sp := fun vs H Q _ => ∃ (q : Addr) (lo hi : Int) (r : Addr) (a b t : Int), vs = [.ref q, .ref r, .int t] ∧ H q = some (.tup [.int lo, .int hi]) ∧ H r = some (.tup [.int a, .int b]) ∧
  (t < 0 → Q .non H) ∧ (¬ t < 0 → ∀ (u : Addr) (H' : Hp), Same H H' → H' u = some (.tup [.int (wdL lo a t), .int (wdH hi b t)]) → Q (.ref u) H')
end
section
variable {K : PySem.W.Frag} {H : Hp} {Q : VK} {E : XK} {p q r : Addr} {f s n c d lo hi a b t : Int} {i j : Bool}
theorem y_apart (D : Drm K H p f s) (e : Fc H q c i) (e' : Fc H r d j) (h0 : 0 ≤ c) (h1 : c < n) (h2 : 0 ≤ d) (h3 : d < n) (h4 : n < 2 ^ 600) (h : ¬ hang f s n c i d j → ∀ H', Same H H' → Q .non H') (h' : hang f s n c i d j → ∀ H', Same H H' → Q (.int (apI f s c i d j)) H') : sp_apart K [.ref p, .int n, .ref q, .ref r] H Q E := ⟨p, f, s, n, q, c, i, r, d, j, rfl, D, e, e', h0, h1, h2, h3, h4, h, h'⟩
theorem y_widened (e : H q = some (.tup [.int lo, .int hi])) (e' : H r = some (.tup [.int a, .int b])) (h : t < 0 → Q .non H) (h' : ¬ t < 0 → ∀ (u : Addr) (H' : Hp), Same H H' → H' u = some (.tup [.int (wdL lo a t), .int (wdH hi b t)]) → Q (.ref u) H') : sp__widened [.ref q, .ref r, .int t] H Q E := ⟨q, lo, hi, r, a, b, t, rfl, e, e', h, h'⟩
end
end Wm

-- f179fe043c2eb56f707d9863f427cb3231e08aec81c5a06a76f993478000e191
/-! What has ink behind so many beats. -/
namespace Wm
open PySem PySem.Spec PyProof.Rows L2
theorem ab_bnH {f s c : Int} (hf : 1 ≤ f) (hs : 0 ≤ s) (hc : 0 ≤ c) (ht : ¬ tOf f s c = 0) : bnL f s c ≤ bnH f s c ∧ bnH f s c < c ∧ abL f s (bnH f s c) ≤ c := by
  obtain ⟨t, l, e, t0, l0, l1⟩ := cell_tl hf hs hc
  obtain ⟨e1, e2, e3⟩ := where_at hf hs t0 l0 l1
  rw [← e] at e1
  obtain ⟨u, rfl⟩ : ∃ u, t = u + 1 := ⟨t - 1, by omega⟩
  have u0 : 0 ≤ u := by omega
  have ez : f + (u + 1) * s = f + u * s + s := by grind
  have us := mul_nn u0 hs
  rw [ez] at l1
  obtain ⟨_, n2, n3⟩ := bn_at hf hs u0 l0 l1
  rw [← e] at n2 n3
  have hz : 0 < f + u * s + s := by omega
  have ha : 0 < f + u * s := by omega
  have lm : 0 ≤ l * (f + u * s) := mul_nn l0 (by omega)
  have e5 : (l + 1) * (f + u * s) = l * (f + u * s) + (f + u * s) := by grind
  have q0 : 0 ≤ l * (f + u * s) / (f + u * s + s) := Int.ediv_nonneg lm (by omega)
  have q2 : l * (f + u * s) / (f + u * s + s) ≤ ((l + 1) * (f + u * s) - 1) / (f + u * s + s) := Int.ediv_le_ediv hz (by omega)
  obtain ⟨d1, d2⟩ := div_bd ((l + 1) * (f + u * s) - 1) (f + u * s + s) hz
  have q1 : ((l + 1) * (f + u * s) - 1) / (f + u * s + s) < f + u * s := by
    apply Int.ediv_lt_of_lt_mul hz
    have := Int.mul_le_mul_of_nonneg_right (show l + 1 ≤ f + u * s + s by omega) (show 0 ≤ f + u * s by omega)
    have e6 : (f + u * s) * (f + u * s + s) = (f + u * s + s) * (f + u * s) := Int.mul_comm _ _
    omega
  have bb := bg_ge hf hs u0
  have bs := bg_succ f s u
  refine ⟨by omega, by omega, ?_⟩
  rw [n3, (ab_at hf hs u0 (by omega) q1).1]
  have : ((l + 1) * (f + u * s) - 1) / (f + u * s + s) * (f + u * s + s) / (f + u * s) ≤ l := by
    have h := Int.ediv_le_ediv ha d1
    have h2 : ((l + 1) * (f + u * s) - 1) / (f + u * s) ≤ l := by
      have : ((l + 1) * (f + u * s) - 1) / (f + u * s) < l + 1 := by
        apply Int.ediv_lt_of_lt_mul ha
        omega
      omega
    omega
  omega
/-- what has ink -/
def reL (f s n c : Int) (i : Bool) (b : Int) : Option (Int × Int) := if gNo f s n c i then pcL f s n c i else if b - rsI i < 0 then none else
  some (wdL (pLo f s (gL f s c i)) (gL f s c i) (b - rsI i), wdH (bnH f s (pLa f s n (gL f s c i))) (gH f s c i) (b - rsI i))
def reU (f s n c : Int) (i : Bool) (b : Int) : Option (Int × Int) := if gNo f s n c i then pcU f s n c i else if b - rsI i - 1 < 0 then (if i = true then some (c, c) else none) else
  some (abL f s (wdL (pLo f s (gL f s c i)) (gL f s c i) (b - rsI i - 1)), min (abH f s (wdH (bnH f s (pLa f s n (gL f s c i))) (gH f s c i) (b - rsI i - 1))) (n - 1))
section
variable (K : PySem.W.Frag)
def sp_reach : Sp := fun vs H Q _ => ∃ (p : Addr) (f s n : Int) (q : Addr) (c : Int) (i : Bool) (b : Int), vs = [.ref p, .int n, .ref q, .int b] ∧ Drm K H p f s ∧ Fc H q c i ∧ 0 ≤ c ∧ c < n ∧ n < 2 ^ 600 ∧ 0 ≤ b ∧
  ∀ (r : Addr) (H' : Hp) (v w : V), Same H H' → H' r = some (.tup [v, w]) → PairV H' v (reL f s n c i b) → PairV H' w (reU f s n c i b) → Q (.ref r) H'
end
theorem y_reach {K : PySem.W.Frag} {H : Hp} {Q : VK} {E : XK} {p q : Addr} {f s n c b : Int} {i : Bool} (d : Drm K H p f s) (e : Fc H q c i) (h0 : 0 ≤ c) (h1 : c < n) (h2 : n < 2 ^ 600) (b0 : 0 ≤ b) (h : ∀ (r : Addr) (H' : Hp) (v w : V), Same H H' → H' r = some (.tup [v, w]) → PairV H' v (reL f s n c i b) → PairV H' w (reU f s n c i b) → Q (.ref r) H') : sp_reach K [.ref p, .int n, .ref q, .int b] H Q E := ⟨p, f, s, n, q, c, i, b, rfl, d, e, h0, h1, h2, b0, h⟩
/-- what is needed of a piece's ends -/
theorem piece_ends {f s n c : Int} {i : Bool} (hf : 1 ≤ f) (hs : 0 ≤ s) (hc : 0 ≤ c) (h1 : c < n) (z : ¬ gNo f s n c i) :
    0 ≤ pLo f s (gL f s c i) ∧ pLo f s (gL f s c i) ≤ gL f s c i ∧ gL f s c i ≤ gH f s c i ∧ gH f s c i ≤ c ∧ gL f s c i ≤ c ∧ abL f s (gL f s c i) < n ∧
    0 ≤ bnH f s (pLa f s n (gL f s c i)) ∧ bnH f s (pLa f s n (gL f s c i)) < n ∧ abL f s (bnH f s (pLa f s n (gL f s c i))) < n := by
  obtain ⟨g0, g1, g2⟩ := gL_nn hf hs hc h1 z
  have gh : gL f s c i ≤ gH f s c i ∧ gH f s c i ≤ c := by
    cases i
    · exact ⟨Int.le_refl _, Int.le_refl _⟩
    · unfold gNo at z
      simp at z
      obtain ⟨a1, a2, a3⟩ := ab_bnH hf hs hc z
      exact ⟨a1, Int.le_of_lt a2⟩
  obtain ⟨m0, w1, v1, b0, b1, b2, b3, b4, b5, b6, b7, b8, b9⟩ := piece_facts hf hs g0 g2
  have t0 := tOf_nn hf hs g0
  have nz : ¬ tOf f s (pLa f s n (gL f s c i)) = 0 := by omega
  obtain ⟨x1, x2, x3⟩ := ab_bnH hf hs (show 0 ≤ pLa f s n (gL f s c i) by omega) nz
  obtain ⟨y1, _, _⟩ := ab_bn hf hs (show 0 ≤ pLa f s n (gL f s c i) by omega) nz
  refine ⟨?_, b5, gh.1, gh.2, g1, g2, by omega, by omega, by omega⟩
  unfold pLo
  have := bg_ge hf hs t0
  have := mul_nn m0 (show 0 ≤ siz f s (gL f s c i) / gcdI f s by omega)
  omega
end Wm

/-! The way from a face to another one. -/
namespace Wm
open PySem PySem.Spec PyProof.Rows L2
/-- from the ground a..b to the ground u..v -/
def amS (a b u : Int) : Int := min (max a u) b
def amW (a b u : Int) : Int := if amS a b u ≤ u then 1 else -1
def amL (a b u T : Int) : Int := amS a b u + amW a b u * (T / 2)
theorem am_safe {a b u v T r2 : Int} (h1 : a ≤ b) (h2 : u ≤ v) (a0 : 0 ≤ a) (u0 : 0 ≤ u) (T0 : 0 ≤ T) (r0 : 0 ≤ r2) (r1 : r2 ≤ 1) (h : T < 2 * max (max 0 (u - b)) (a - v) + r2) :
    0 ≤ amL a b u T ∧ amL a b u T ≤ max b u ∧ (¬ T % 2 = 0 → 0 ≤ min (amL a b u T) (amL a b u T + amW a b u) ∧ min (amL a b u T) (amL a b u T + amW a b u) ≤ max a u) := by
  unfold amL amW
  have e : ∀ x : Int, (if amS a b u ≤ u then (1 : Int) else -1) * x = if amS a b u ≤ u then x else -x := by
    intro x; split <;> omega
  rw [e]
  by_cases c : amS a b u ≤ u
  · simp only [if_pos c]
    unfold amS at *
    omega
  · simp only [if_neg c]
    unfold amS at *
    omega
section
variable (K : PySem.W.Frag)
/-- the face told -/
def owC (f s n c : Int) (i : Bool) (d : Int) (j : Bool) (m : Int) : Int := if m = 0 then c else if m = apI f s c i d j then d else
  if (m - rsI i) % 2 = 0 then amL (gL f s c i) (gH f s c i) (gL f s d j) (m - rsI i) else
  min (abH f s (min (amL (gL f s c i) (gH f s c i) (gL f s d j) (m - rsI i)) (amL (gL f s c i) (gH f s c i) (gL f s d j) (m - rsI i) + amW (gL f s c i) (gH f s c i) (gL f s d j)))) (n - 1)
def owI (f s c : Int) (i : Bool) (d : Int) (j : Bool) (m : Int) : Bool := if m = 0 then i else if m = apI f s c i d j then j else !decide ((m - rsI i) % 2 = 0)
def sp__amidst : Sp := fun vs H Q _ => ∃ (p : Addr) (f s n : Int) (q : Addr) (c : Int) (i : Bool) (r : Addr) (d : Int) (j : Bool) (m : Int), vs = [.ref p, .int n, .ref q, .ref r, .int m] ∧ Drm K H p f s ∧ Fc H q c i ∧ Fc H r d j ∧ 0 ≤ c ∧ c < n ∧ 0 ≤ d ∧ d < n ∧ n < 2 ^ 600 ∧
  ¬ gNo f s n c i ∧ ¬ gNo f s n d j ∧ ¬ (c = d ∧ i = j) ∧ 0 < m ∧ m < apI f s c i d j ∧ ∀ (u : Addr) (H' : Hp), Same H H' → Fc H' u (owC f s n c i d j m) (owI f s c i d j m) → Q (.ref u) H'
def sp_on_way : Sp := fun vs H Q _ => ∃ (p : Addr) (f s n : Int) (q : Addr) (c : Int) (i : Bool) (r : Addr) (d : Int) (j : Bool) (m : Int), vs = [.ref p, .int n, .ref q, .ref r, .int m] ∧ Drm K H p f s ∧ Fc H q c i ∧ Fc H r d j ∧ 0 ≤ c ∧ c < n ∧ 0 ≤ d ∧ d < n ∧ n < 2 ^ 600 ∧
  (¬ hang f s n c i d j → ∀ H', Same H H' → Q .non H') ∧ (hang f s n c i d j → 0 ≤ m ∧ m ≤ apI f s c i d j ∧ ∀ (u : Addr) (H' : Hp), Same H H' → Fc H' u (owC f s n c i d j m) (owI f s c i d j m) → Q (.ref u) H')
end
section
variable {K : PySem.W.Frag} {H : Hp} {Q : VK} {E : XK} {p q r : Addr} {f s n c d m : Int} {i j : Bool}
theorem y_amidst (D : Drm K H p f s) (e : Fc H q c i) (e' : Fc H r d j) (h0 : 0 ≤ c) (h1 : c < n) (h2 : 0 ≤ d) (h3 : d < n) (h4 : n < 2 ^ 600) (g1 : ¬ gNo f s n c i) (g2 : ¬ gNo f s n d j) (ne : ¬ (c = d ∧ i = j)) (m0 : 0 < m) (m1 : m < apI f s c i d j)
    (h : ∀ (u : Addr) (H' : Hp), Same H H' → Fc H' u (owC f s n c i d j m) (owI f s c i d j m) → Q (.ref u) H') : sp__amidst K [.ref p, .int n, .ref q, .ref r, .int m] H Q E := ⟨p, f, s, n, q, c, i, r, d, j, m, rfl, D, e, e', h0, h1, h2, h3, h4, g1, g2, ne, m0, m1, h⟩
theorem y_on_way (D : Drm K H p f s) (e : Fc H q c i) (e' : Fc H r d j) (h0 : 0 ≤ c) (h1 : c < n) (h2 : 0 ≤ d) (h3 : d < n) (h4 : n < 2 ^ 600) (k1 : ¬ hang f s n c i d j → ∀ H', Same H H' → Q .non H')
    (k2 : hang f s n c i d j → 0 ≤ m ∧ m ≤ apI f s c i d j ∧ ∀ (u : Addr) (H' : Hp), Same H H' → Fc H' u (owC f s n c i d j m) (owI f s c i d j m) → Q (.ref u) H') : sp_on_way K [.ref p, .int n, .ref q, .ref r, .int m] H Q E := ⟨p, f, s, n, q, c, i, r, d, j, m, rfl, D, e, e', h0, h1, h2, h3, h4, k1, k2⟩
def rTp (K : PySem.W.Frag) : List V → Hp → VK → Prop := fun xs H Q => ∃ p ys, xs = [.ref p] ∧ ((SqL K H p ys ∧ ∀ l, H l = none → Q (.ref l) (upd H l (.tup ys))) ∨ (SqT K H p ys ∧ Q (.ref p) H))
theorem cl_tuple {X : Cx} : CallR X (.type "tuple") (rTp X.K) := call_tuple_of
theorem x_tupT {xs : List V} (e : H p = some (.tup xs)) (h : Q (.ref p) H) : rTp K [.ref p] H Q := ⟨p, xs, rfl, .inr ⟨.inl (.inl e), h⟩⟩
end
end Wm

/-! The face on the ways between each two of three. -/
namespace Wm
open PySem PySem.Spec PyProof.Rows L2
theorem bn_wide {f s c : Int} (hf : 1 ≤ f) (hs : 0 ≤ s) (hc : 0 ≤ c) (ht : ¬ tOf f s c = 0) : bnH f s c ≤ bnL f s c + 1 := by
  obtain ⟨t, l, e, t0, l0, l1⟩ := cell_tl hf hs hc
  obtain ⟨e1, e2, e3⟩ := where_at hf hs t0 l0 l1
  rw [← e] at e1
  obtain ⟨u, rfl⟩ : ∃ u, t = u + 1 := ⟨t - 1, by omega⟩
  have u0 : 0 ≤ u := by omega
  have ez : f + (u + 1) * s = f + u * s + s := by grind
  have us := mul_nn u0 hs
  rw [ez] at l1
  obtain ⟨_, n2, n3⟩ := bn_at hf hs u0 l0 l1
  rw [← e] at n2 n3
  have hz : 0 < f + u * s + s := by omega
  have e5 : (l + 1) * (f + u * s) = l * (f + u * s) + (f + u * s) := by grind
  rw [n2, n3]
  have h : ((l + 1) * (f + u * s) - 1) / (f + u * s + s) ≤ (l * (f + u * s) + (f + u * s + s)) / (f + u * s + s) := Int.ediv_le_ediv hz (by omega)
  rw [Int.add_ediv_of_dvd_right (Int.dvd_refl _), Int.ediv_self (by omega)] at h
  omega
theorem g_wide {f s n c : Int} {i : Bool} (hf : 1 ≤ f) (hs : 0 ≤ s) (hc : 0 ≤ c) (h1 : c < n) (z : ¬ gNo f s n c i) : gL f s c i ≤ gH f s c i ∧ gH f s c i ≤ gL f s c i + rsI i := by
  refine ⟨(piece_ends hf hs hc h1 z).2.2.1, ?_⟩
  cases i
  · exact Int.le_of_eq (Int.add_zero _).symm
  · unfold gNo at z
    simp at z
    exact bn_wide hf hs hc z
theorem tri {p12 p13 p23 : Prop} [Decidable p12] [Decidable p13] [Decidable p23] {a1 b1 r1 a2 b2 r2 a3 b3 r3 : Int} (w1 : a1 ≤ b1 ∧ b1 ≤ a1 + r1) (w2 : a2 ≤ b2 ∧ b2 ≤ a2 + r2) (w3 : a3 ≤ b3 ∧ b3 ≤ a3 + r3)
    (t1 : p12 → p13 → p23) (t2 : p12 → p23 → p13) (t3 : p13 → p23 → p12) (e12 : p12 → a1 = a2 ∧ b1 = b2 ∧ r1 = r2) (e13 : p13 → a1 = a3 ∧ b1 = b3 ∧ r1 = r3) (e23 : p23 → a2 = a3 ∧ b2 = b3 ∧ r2 = r3) :
    (if p13 then 0 else r1 + 2 * max (max 0 (a3 - b1)) (a1 - b3) + r3) ≤ (if p12 then 0 else r1 + 2 * max (max 0 (a2 - b1)) (a1 - b2) + r2) + (if p23 then 0 else r2 + 2 * max (max 0 (a3 - b2)) (a2 - b3) + r3) ∧
    (if p23 then 0 else r2 + 2 * max (max 0 (a3 - b2)) (a2 - b3) + r3) ≤ (if p12 then 0 else r1 + 2 * max (max 0 (a2 - b1)) (a1 - b2) + r2) + (if p13 then 0 else r1 + 2 * max (max 0 (a3 - b1)) (a1 - b3) + r3) := by
  by_cases h12 : p12 <;> by_cases h13 : p13 <;> by_cases h23 : p23
  · rw [if_pos h12, if_pos h13, if_pos h23]; omega
  · exact absurd (t1 h12 h13) h23
  · exact absurd (t2 h12 h23) h13
  · rw [if_pos h12, if_neg h13, if_neg h23]; have := e12 h12; omega
  · exact absurd (t3 h13 h23) h12
  · rw [if_neg h12, if_pos h13, if_neg h23]; have := e13 h13; omega
  · rw [if_neg h12, if_neg h13, if_pos h23]; have := e23 h23; omega
  · rw [if_neg h12, if_neg h13, if_neg h23]; omega
theorem rsI_nn (i : Bool) : 0 ≤ rsI i ∧ rsI i ≤ 1 := by cases i <;> decide
theorem ap_nn {f s c d : Int} {i j : Bool} : 0 ≤ apI f s c i d j := by
  have a := rsI_nn i
  have b := rsI_nn j
  unfold apI
  split <;> omega
/-- three faces of one piece -/
theorem ap_tri {f s n c d g : Int} {i j k : Bool} (hf : 1 ≤ f) (hs : 0 ≤ s) (c0 : 0 ≤ c) (c1 : c < n) (d0 : 0 ≤ d) (d1 : d < n) (g0 : 0 ≤ g) (g1 : g < n) (h : hang f s n c i d j) (h' : hang f s n c i g k) :
    apI f s c i g k ≤ apI f s c i d j + apI f s d j g k ∧ apI f s d j g k ≤ apI f s c i d j + apI f s c i g k := by
  have h2 : hang f s n d j g k := ⟨h.1.symm.trans h'.1, h.2.symm.trans h'.2⟩
  by_cases x : (c = d ∧ i = j) ∧ (c = g ∧ i = k)
  · obtain ⟨⟨rfl, rfl⟩, rfl, rfl⟩ := x
    have e : apI f s c i c i = 0 := by unfold apI; simp
    rw [e]; omega
  · have W : (¬ gNo f s n c i) ∧ (¬ gNo f s n d j) ∧ (¬ gNo f s n g k) := by
      by_cases y : c = d ∧ i = j
      · have y2 : ¬ (c = g ∧ i = k) := fun z => x ⟨y, z⟩
        obtain ⟨u1, u2⟩ := hang_no h' y2
        refine ⟨u1, ?_, u2⟩
        obtain ⟨rfl, rfl⟩ := y
        exact u1
      · obtain ⟨u1, u2⟩ := hang_no h y
        refine ⟨u1, u2, ?_⟩
        by_cases z : c = g ∧ i = k
        · obtain ⟨rfl, rfl⟩ := z; exact u1
        · exact (hang_no h' z).2
    obtain ⟨W1, W2, W3⟩ := W
    have V1 := g_wide hf hs c0 c1 W1
    have V2 := g_wide hf hs d0 d1 W2
    have V3 := g_wide hf hs g0 g1 W3
    unfold apI
    exact tri V1 V2 V3 (fun a b => ⟨a.1.symm.trans b.1, a.2.symm.trans b.2⟩) (fun a b => ⟨a.1.trans b.1, a.2.trans b.2⟩) (fun a b => ⟨a.1.trans b.1.symm, a.2.trans b.2.symm⟩)
      (fun a => by obtain ⟨rfl, rfl⟩ := a; exact ⟨rfl, rfl, rfl⟩) (fun a => by obtain ⟨rfl, rfl⟩ := a; exact ⟨rfl, rfl, rfl⟩) (fun a => by obtain ⟨rfl, rfl⟩ := a; exact ⟨rfl, rfl, rfl⟩)
/-- how far the face amid is from the first -/
def adI (f s c : Int) (i : Bool) (d : Int) (j : Bool) (g : Int) (k : Bool) : Int := (apI f s c i d j + apI f s c i g k - apI f s d j g k) / 2
section
variable (K : PySem.W.Frag)
def sp_amid : Sp := fun vs H Q _ => ∃ (p : Addr) (f s n : Int) (q : Addr) (c : Int) (i : Bool) (r : Addr) (d : Int) (j : Bool) (t : Addr) (g : Int) (k : Bool), vs = [.ref p, .int n, .ref q, .ref r, .ref t] ∧ Drm K H p f s ∧ Fc H q c i ∧ Fc H r d j ∧ Fc H t g k ∧ 0 ≤ c ∧ c < n ∧ 0 ≤ d ∧ d < n ∧ 0 ≤ g ∧ g < n ∧ n < 2 ^ 600 ∧
  (¬ (hang f s n c i d j ∧ hang f s n c i g k) → ∀ H', Same H H' → Q .non H') ∧ (hang f s n c i d j → hang f s n c i g k → ∀ (u : Addr) (H' : Hp), Same H H' → Fc H' u (owC f s n c i d j (adI f s c i d j g k)) (owI f s c i d j (adI f s c i d j g k)) → Q (.ref u) H')
end
theorem y_amid {K : PySem.W.Frag} {H : Hp} {Q : VK} {E : XK} {p q r t : Addr} {f s n c d g : Int} {i j k : Bool} (D : Drm K H p f s) (e1 : Fc H q c i) (e2 : Fc H r d j) (e3 : Fc H t g k) (c0 : 0 ≤ c) (c1 : c < n) (d0 : 0 ≤ d) (d1 : d < n) (g0 : 0 ≤ g) (g1 : g < n) (n1 : n < 2 ^ 600)
    (k1 : ¬ (hang f s n c i d j ∧ hang f s n c i g k) → ∀ H', Same H H' → Q .non H') (k2 : hang f s n c i d j → hang f s n c i g k → ∀ (u : Addr) (H' : Hp), Same H H' → Fc H' u (owC f s n c i d j (adI f s c i d j g k)) (owI f s c i d j (adI f s c i d j g k)) → Q (.ref u) H') :
    sp_amid K [.ref p, .int n, .ref q, .ref r, .ref t] H Q E := ⟨p, f, s, n, q, c, i, r, d, j, t, g, k, rfl, D, e1, e2, e3, c0, c1, d0, d1, g0, g1, n1, k1, k2⟩
theorem gd {a b : Int} : a - b = a + -b := by omega
theorem ap_bd {f s n c d : Int} {i j : Bool} (hf : 1 ≤ f) (hs : 0 ≤ s) (c0 : 0 ≤ c) (c1 : c < n) (d0 : 0 ≤ d) (d1 : d < n) (h : hang f s n c i d j) : apI f s c i d j ≤ 2 * n + 2 := by
  have a := rsI_nn i
  have b := rsI_nn j
  unfold apI
  by_cases x : c = d ∧ i = j
  · rw [if_pos x]; omega
  · rw [if_neg x]
    obtain ⟨u1, u2⟩ := hang_no h x
    obtain ⟨_, _, A1, A2, A3, A4, _⟩ := piece_ends hf hs c0 c1 u1
    obtain ⟨_, _, B1, B2, B3, B4, _⟩ := piece_ends hf hs d0 d1 u2
    obtain ⟨A0, _⟩ := gL_nn hf hs c0 c1 u1
    obtain ⟨B0, _⟩ := gL_nn hf hs d0 d1 u2
    omega
end Wm

/-! All faces of a piece have this piece; its ends. -/
namespace Wm
open PySem PySem.Spec PyProof.Rows L2
theorem sec_at {f s t y m : Int} (hf : 1 ≤ f) (hs : 0 ≤ s) (ht : 0 ≤ t) (y0 : 0 ≤ y) (y1 : y < f + t * s) (h1 : m * ((f + t * s) / gcdI f s) ≤ y) (h2 : y < m * ((f + t * s) / gcdI f s) + (f + t * s) / gcdI f s) : secN f s (Bg f s t + y) = m := by
  obtain ⟨_, e2, e3⟩ := where_at hf hs ht y0 y1
  have ts := mul_nn ht hs
  obtain ⟨w1, w2⟩ := dvd_part (gcdI_pos (s := s) hf) (show 1 ≤ f + t * s by omega) (gcdI_dz f s t)
  unfold secN
  rw [e2, e3]
  exact div_is (by omega) h1 h2
/-- a cell of an upper turn lies within its sector's part beneath -/
theorem bn_sec {f s t x m : Int} (hf : 1 ≤ f) (hs : 0 ≤ s) (ht : 0 ≤ t) (x0 : 0 ≤ x) (x1 : x < f + t * s + s) (m0 : 0 ≤ m) (h1 : m * ((f + t * s + s) / gcdI f s) ≤ x) (h2 : x < m * ((f + t * s + s) / gcdI f s) + (f + t * s + s) / gcdI f s) :
    tOf f s (Bg f s (t + 1) + x) = t + 1 ∧ tOf f s (bnL f s (Bg f s (t + 1) + x)) = t ∧ secN f s (bnL f s (Bg f s (t + 1) + x)) = m ∧
    m * ((f + t * s) / gcdI f s) ≤ bnL f s (Bg f s (t + 1) + x) - Bg f s t ∧ bnH f s (Bg f s (t + 1) + x) - Bg f s t < m * ((f + t * s) / gcdI f s) + (f + t * s) / gcdI f s ∧ 0 ≤ bnL f s (Bg f s (t + 1) + x) - Bg f s t ∧ bnH f s (Bg f s (t + 1) + x) - Bg f s t < f + t * s := by
  have ts := mul_nn ht hs
  have gg := gcdI_pos (s := s) hf
  have ez : f + (t + 1) * s = f + t * s + s := by grind
  obtain ⟨w1, w2⟩ := dvd_part gg (show 1 ≤ f + t * s by omega) (gcdI_dz f s t)
  obtain ⟨v1, v2⟩ := dvd_part gg (show 1 ≤ f + (t + 1) * s by omega) (gcdI_dz f s (t + 1))
  rw [ez] at v1 v2
  obtain ⟨n1, n2, n3⟩ := bn_at hf hs ht x0 x1
  have ha : 0 < f + t * s := by omega
  have hz : 0 < f + t * s + s := by omega
  have lm : 0 ≤ x * (f + t * s) := mul_nn x0 (by omega)
  have e5 : (x + 1) * (f + t * s) = x * (f + t * s) + (f + t * s) := by grind
  have q0 : 0 ≤ x * (f + t * s) / (f + t * s + s) := Int.ediv_nonneg lm (by omega)
  have q2 : x * (f + t * s) / (f + t * s + s) ≤ ((x + 1) * (f + t * s) - 1) / (f + t * s + s) := Int.ediv_le_ediv hz (by omega)
  have q1 : ((x + 1) * (f + t * s) - 1) / (f + t * s + s) < f + t * s := by
    apply Int.ediv_lt_of_lt_mul hz
    have := Int.mul_le_mul_of_nonneg_right (show x + 1 ≤ f + t * s + s by omega) (show 0 ≤ f + t * s by omega)
    have e6 : (f + t * s) * (f + t * s + s) = (f + t * s + s) * (f + t * s) := Int.mul_comm _ _
    omega
  have k1 : m * ((f + t * s) / gcdI f s) ≤ x * (f + t * s) / (f + t * s + s) := by
    apply Int.le_ediv_of_mul_le hz
    have h3 := Int.mul_le_mul_of_nonneg_right h1 (show 0 ≤ f + t * s by omega)
    have h4 : m * ((f + t * s) / gcdI f s) * (gcdI f s * ((f + t * s + s) / gcdI f s)) = m * ((f + t * s + s) / gcdI f s) * (gcdI f s * ((f + t * s) / gcdI f s)) := by grind
    rw [v2, w2] at h4
    omega
  have k2 : ((x + 1) * (f + t * s) - 1) / (f + t * s + s) < m * ((f + t * s) / gcdI f s) + (f + t * s) / gcdI f s := by
    apply Int.ediv_lt_of_lt_mul hz
    have h3 := Int.mul_le_mul_of_nonneg_right (show x + 1 ≤ (m + 1) * ((f + t * s + s) / gcdI f s) by
      have : (m + 1) * ((f + t * s + s) / gcdI f s) = m * ((f + t * s + s) / gcdI f s) + (f + t * s + s) / gcdI f s := by grind
      omega) (show 0 ≤ f + t * s by omega)
    have h4 : (m + 1) * ((f + t * s) / gcdI f s) * (gcdI f s * ((f + t * s + s) / gcdI f s)) = (m + 1) * ((f + t * s + s) / gcdI f s) * (gcdI f s * ((f + t * s) / gcdI f s)) := by grind
    rw [v2, w2] at h4
    have h5 : (m + 1) * ((f + t * s) / gcdI f s) = m * ((f + t * s) / gcdI f s) + (f + t * s) / gcdI f s := by grind
    rw [h5] at h4
    omega
  rw [n2, n3]
  refine ⟨n1, (where_at hf hs ht q0 (by omega)).1, sec_at hf hs ht q0 (by omega) k1 (by omega), by omega, by omega, by omega, by omega⟩
theorem hang_of {f s n c d : Int} {i j : Bool} (h1 : ¬ gNo f s n c i) (h2 : ¬ gNo f s n d j) (e : tOf f s (gL f s c i) = tOf f s (gL f s d j)) (e' : secN f s (gL f s c i) = secN f s (gL f s d j)) (e3 : siz f s (gL f s c i) = siz f s (gL f s d j)) : hang f s n c i d j := by
  unfold hang pcL pcU pLo pLa pFi prt
  rw [if_neg h1, if_neg h2, if_neg h1, if_neg h2, e, e', e3]
  exact ⟨rfl, rfl⟩
theorem siz_of {f s G G' : Int} (e : tOf f s G = tOf f s G') : siz f s G = siz f s G' := by unfold siz; rw [e]
/-- all faces between a piece's ends hang together with it -/
theorem hang_piece {f s n c : Int} {i : Bool} (hf : 1 ≤ f) (hs : 0 ≤ s) (hc : 0 ≤ c) (h1 : c < n) (z : ¬ gNo f s n c i) :
    (∀ x, pFi f s (gL f s c i) ≤ x → x ≤ pLa f s n (gL f s c i) → 0 ≤ x ∧ x < n ∧ ¬ gNo f s n x true ∧ hang f s n c i x true ∧ pLo f s (gL f s c i) ≤ bnL f s x) ∧
    (∀ y, pLo f s (gL f s c i) ≤ y → y ≤ bnH f s (pLa f s n (gL f s c i)) → 0 ≤ y ∧ y < n ∧ ¬ gNo f s n y false ∧ hang f s n c i y false) := by
  obtain ⟨g0, g1, g2⟩ := gL_nn hf hs hc h1 z
  obtain ⟨P0, P1, P2, P3, P4, P5, P6, P7, P8⟩ := piece_ends hf hs hc h1 z
  obtain ⟨m0, w1, v1, b0, b1, b2, b3, b4, b5, b6, b7, b8, b9⟩ := piece_facts hf hs g0 g2
  have hgo : ∀ d j, ¬ gNo f s n d j → tOf f s (gL f s d j) = tOf f s (gL f s c i) → secN f s (gL f s d j) = secN f s (gL f s c i) → hang f s n c i d j := fun d j a b e => hang_of z a b.symm e.symm (siz_of b.symm)
  generalize gL f s c i = G at *
  have t0 := tOf_nn hf hs g0
  have ts := mul_nn t0 hs
  have ez : f + (tOf f s G + 1) * s = f + tOf f s G * s + s := by grind
  have bb := bg_ge hf hs t0
  have bs1 := bg_succ f s (tOf f s G)
  have sec2 : secN f s G * prt f s G + prt f s G ≤ f + tOf f s G * s + s := by
    have := Int.mul_le_mul_of_nonneg_right b7 (show 0 ≤ prt f s G by omega)
    have e5 : (secN f s G + 1) * prt f s G = secN f s G * prt f s G + prt f s G := by grind
    omega
  have mB := mul_nn m0 (show 0 ≤ prt f s G by omega)
  have eP : prt f s G = (f + tOf f s G * s + s) / gcdI f s := by unfold prt; rw [ez]
  have eA : siz f s G / gcdI f s = (f + tOf f s G * s) / gcdI f s := rfl
  have up : ∀ x, pFi f s G ≤ x → x ≤ pLa f s n G → x = Bg f s (tOf f s G + 1) + (x - Bg f s (tOf f s G + 1)) ∧ 0 ≤ x - Bg f s (tOf f s G + 1) ∧ x - Bg f s (tOf f s G + 1) < f + tOf f s G * s + s ∧ secN f s G * ((f + tOf f s G * s + s) / gcdI f s) ≤ x - Bg f s (tOf f s G + 1) ∧ x - Bg f s (tOf f s G + 1) < secN f s G * ((f + tOf f s G * s + s) / gcdI f s) + (f + tOf f s G * s + s) / gcdI f s := by
    intro x x1 x2
    have e1 : pFi f s G = Bg f s (tOf f s G + 1) + secN f s G * prt f s G := rfl
    have e2 : pLa f s n G = min (pFi f s G + prt f s G) n - 1 := rfl
    rw [← eP]
    omega
  refine ⟨fun x x1 x2 => ?_, fun y y1 y2 => ?_⟩
  · obtain ⟨q1, q2, q3, q4, q5⟩ := up x x1 x2
    have B := bn_sec hf hs t0 q2 q3 m0 q4 q5
    rw [← q1] at B
    obtain ⟨B1, B2, B3, B4, B5, B6, B7⟩ := B
    have ng : ¬ gNo f s n x true := by unfold gNo; simp; omega
    refine ⟨by omega, by omega, ng, hgo x true ng B2 B3, ?_⟩
    unfold pLo
    rw [eA]
    omega
  · obtain ⟨q1, q2, q3, q4, q5⟩ := up (pLa f s n G) b1 (Int.le_refl _)
    have B := bn_sec hf hs t0 q2 q3 m0 q4 q5
    rw [← q1] at B
    obtain ⟨B1, B2, B3, B4, B5, B6, B7⟩ := B
    have y0 : 0 ≤ y := by omega
    have am := ab_le hf hs y0 y2
    have ng : ¬ gNo f s n y false := by unfold gNo; simp; omega
    have e1 : pLo f s G = Bg f s (tOf f s G) + secN f s G * (siz f s G / gcdI f s) := rfl
    rw [eA] at e1
    have mA := mul_nn m0 (show 0 ≤ (f + tOf f s G * s) / gcdI f s by rw [← eA]; omega)
    have ey : y = Bg f s (tOf f s G) + (y - Bg f s (tOf f s G)) := by omega
    have T := (where_at hf hs t0 (show 0 ≤ y - Bg f s (tOf f s G) by omega) (by omega)).1
    have S := sec_at (m := secN f s G) hf hs t0 (show 0 ≤ y - Bg f s (tOf f s G) by omega) (by omega) (by omega) (by omega)
    rw [← ey] at T S
    exact ⟨y0, by omega, ng, hgo y false ng T S⟩
/-- the ends told -/
def enS (f s n c : Int) (i : Bool) : Int := if gNo f s n c i then c else pFi f s (gL f s c i)
def enSi (f s n c : Int) (i : Bool) : Bool := if gNo f s n c i then i else true
def enLo (f s n c : Int) (i : Bool) : Int := apI f s (pFi f s (gL f s c i)) true (bnH f s (pLa f s n (gL f s c i))) false
def enUp (f s n c : Int) (i : Bool) : Int := apI f s (pFi f s (gL f s c i)) true (pLa f s n (gL f s c i)) true
def enM (f s n c : Int) (i : Bool) : Int := if gNo f s n c i then 0 else if enLo f s n c i < enUp f s n c i then enUp f s n c i else enLo f s n c i
def enE (f s n c : Int) (i : Bool) : Int := if gNo f s n c i then c else if enLo f s n c i < enUp f s n c i then pLa f s n (gL f s c i) else bnH f s (pLa f s n (gL f s c i))
def enEi (f s n c : Int) (i : Bool) : Bool := if gNo f s n c i then i else decide (enLo f s n c i < enUp f s n c i)
section
variable (K : PySem.W.Frag)
def sp_ends : Sp := fun vs H Q _ => ∃ (p : Addr) (f s n : Int) (q : Addr) (c : Int) (i : Bool), vs = [.ref p, .int n, .ref q] ∧ Drm K H p f s ∧ Fc H q c i ∧ 0 ≤ c ∧ c < n ∧ n < 2 ^ 600 ∧
  ∀ (r u v : Addr) (H' : Hp), Same H H' → H' r = some (.tup [.int (enM f s n c i), .ref u, .ref v]) → Fc H' u (enS f s n c i) (enSi f s n c i) → Fc H' v (enE f s n c i) (enEi f s n c i) → Q (.ref r) H'
end
theorem y_ends {K : PySem.W.Frag} {H : Hp} {Q : VK} {E : XK} {p q : Addr} {f s n c : Int} {i : Bool} (d : Drm K H p f s) (e : Fc H q c i) (h0 : 0 ≤ c) (h1 : c < n) (h2 : n < 2 ^ 600)
    (h : ∀ (r u v : Addr) (H' : Hp), Same H H' → H' r = some (.tup [.int (enM f s n c i), .ref u, .ref v]) → Fc H' u (enS f s n c i) (enSi f s n c i) → Fc H' v (enE f s n c i) (enEi f s n c i) → Q (.ref r) H') : sp_ends K [.ref p, .int n, .ref q] H Q E := ⟨p, f, s, n, q, c, i, rfl, d, e, h0, h1, h2, h⟩
/-- the told ends: faces of the roll that hang together, so far apart -/
theorem ends_ok {f s n c : Int} {i : Bool} (hf : 1 ≤ f) (hs : 0 ≤ s) (hc : 0 ≤ c) (h1 : c < n) : 0 ≤ enS f s n c i ∧ enS f s n c i < n ∧ 0 ≤ enE f s n c i ∧ enE f s n c i < n ∧
    hang f s n c i (enS f s n c i) (enSi f s n c i) ∧ hang f s n c i (enE f s n c i) (enEi f s n c i) ∧ enM f s n c i = apI f s (enS f s n c i) (enSi f s n c i) (enE f s n c i) (enEi f s n c i) := by
  by_cases z : gNo f s n c i
  · unfold enS enE enSi enEi enM
    rw [if_pos z, if_pos z, if_pos z, if_pos z, if_pos z]
    refine ⟨hc, h1, hc, h1, ⟨rfl, rfl⟩, ⟨rfl, rfl⟩, ?_⟩
    unfold apI
    rw [if_pos ⟨rfl, rfl⟩]
  · obtain ⟨U, L⟩ := hang_piece hf hs hc h1 z
    obtain ⟨g0, g1, g2⟩ := gL_nn hf hs hc h1 z
    obtain ⟨P0, P1, P2, P3, P4, P5, P6, P7, P8⟩ := piece_ends hf hs hc h1 z
    obtain ⟨m0, w1, v1, b0, b1, b2, b3, b4, b5, b6, b7, b8, b9⟩ := piece_facts hf hs g0 g2
    obtain ⟨u0, u1, u2, u3, u4⟩ := U _ (Int.le_refl _) b1
    obtain ⟨v0, v1, v2, v3, v4⟩ := U _ b1 (Int.le_refl _)
    have nz : ¬ tOf f s (pLa f s n (gL f s c i)) = 0 := by have := tOf_nn hf hs g0; omega
    have hh := (ab_bnH hf hs v0 nz).1
    obtain ⟨l0, l1, l2, l3⟩ := L _ (by omega) (Int.le_refl _)
    unfold enS enE enSi enEi enM
    rw [if_neg z, if_neg z, if_neg z, if_neg z, if_neg z]
    by_cases x : enLo f s n c i < enUp f s n c i
    · rw [if_pos x, if_pos x, decide_eq_true x]
      exact ⟨u0, u1, v0, v1, u3, v3, rfl⟩
    · rw [if_neg x, if_neg x, decide_eq_false x]
      exact ⟨u0, u1, l0, l1, u3, l3, rfl⟩
end Wm

/-! The widest piece; a sector's share. -/
namespace Wm
open PySem PySem.Spec PyProof.Rows L2
/-- the first cell of the gap with the widest piece: the last one's, or the one ahead of it -/
def wsC (f s n : Int) : Int := if enM f s n (Bg f s (tOf f s (n - 1))) true < enM f s n (Bg f s (tOf f s (n - 1) - 1)) true then Bg f s (tOf f s (n - 1) - 1) else Bg f s (tOf f s (n - 1))
def shI (f s n k : Int) : Int := Bg f s (tOf f s (n - 1)) / gcdI f s + min ((f + tOf f s (n - 1) * s) / gcdI f s) (max 0 (n - 1 - Bg f s (tOf f s (n - 1)) + 1 - k * ((f + tOf f s (n - 1) * s) / gcdI f s)))
section
variable (K : PySem.W.Frag)
def sp_widest : Sp := fun vs H Q _ => ∃ (p : Addr) (f s n : Int), vs = [.ref p, .int n] ∧ Drm K H p f s ∧ 1 ≤ n ∧ n < 2 ^ 600 ∧ (tOf f s (n - 1) = 0 → ∀ H', Same H H' → Q .non H') ∧
  (¬ tOf f s (n - 1) = 0 → ∀ (r u v : Addr) (H' : Hp), Same H H' → H' r = some (.tup [.int (enM f s n (wsC f s n) true), .ref u, .ref v]) → Fc H' u (enS f s n (wsC f s n) true) (enSi f s n (wsC f s n) true) → Fc H' v (enE f s n (wsC f s n) true) (enEi f s n (wsC f s n) true) → Q (.ref r) H')
def sp_share : Sp := fun vs H Q _ => ∃ (p : Addr) (f s n k : Int), vs = [.ref p, .int n, .int k] ∧ Drm K H p f s ∧ 1 ≤ n ∧ n < 2 ^ 600 ∧ 0 ≤ k ∧ k < gcdI f s ∧ ∀ H', Same H H' → Q (.int (shI f s n k)) H'
end
section
variable {K : PySem.W.Frag} {H : Hp} {Q : VK} {E : XK} {p : Addr} {f s n k : Int}
theorem y_widest (d : Drm K H p f s) (h0 : 1 ≤ n) (h1 : n < 2 ^ 600) (k1 : tOf f s (n - 1) = 0 → ∀ H', Same H H' → Q .non H')
    (k2 : ¬ tOf f s (n - 1) = 0 → ∀ (r u v : Addr) (H' : Hp), Same H H' → H' r = some (.tup [.int (enM f s n (wsC f s n) true), .ref u, .ref v]) → Fc H' u (enS f s n (wsC f s n) true) (enSi f s n (wsC f s n) true) → Fc H' v (enE f s n (wsC f s n) true) (enEi f s n (wsC f s n) true) → Q (.ref r) H') : sp_widest K [.ref p, .int n] H Q E := ⟨p, f, s, n, rfl, d, h0, h1, k1, k2⟩
theorem y_share (d : Drm K H p f s) (h0 : 1 ≤ n) (h1 : n < 2 ^ 600) (k0 : 0 ≤ k) (k1 : k < gcdI f s) (h : ∀ H', Same H H' → Q (.int (shI f s n k)) H') : sp_share K [.ref p, .int n, .int k] H Q E := ⟨p, f, s, n, k, rfl, d, h0, h1, k0, k1, h⟩
end
end Wm

/-! sorted of a list that reads as data: the rule. -/
namespace Wm
open PySem PySem.Spec PyProof.Rows L2
def rSortedDt (K : PySem.W.Frag) : List V → Hp → VK → Prop := fun vs H Q => ∃ (a : Addr) (bs : List (V × PyData)), vs = [.ref a] ∧ SqL K H a (bs.map (·.1)) ∧ (∀ b ∈ bs, Dp K H b.1 b.2 ∧ b.2.depth ≤ 8) ∧
  PySem.W.AllAlike (bs.map (·.2)) ∧ PySem.W.Sortable (bs.map (·.2)) ∧ ∀ p, H p = none → Q (.ref p) (upd H p (.lst ((bs.mergeSort (PySem.W.dataLe false (·.2))).map (·.1))))
theorem each_of_vals : ∀ {bs : List (V × PyData)} {us : List Value}, Vals (bs.map (·.1)) us → PySem.W.EachIs (fun (u : Value) (b : V × PyData) => RelV b.1 u) us bs
  | [], us, h => by
    have h' : Vals [] us := h
    cases h'
    exact .nil
  | b :: bs, us, h => by
    have h' : Vals (b.1 :: bs.map (·.1)) us := h
    cases h' with
    | cons r t => exact .cons r (each_of_vals t)
theorem vals_of_each : ∀ {bs : List (V × PyData)} {us : List Value}, PySem.W.EachIs (fun (u : Value) (b : V × PyData) => RelV b.1 u) us bs → Vals (bs.map (·.1)) us
  | _, _, .nil => .nil
  | _, _, .cons r t => .cons r (vals_of_each t)
theorem each_dp {X : Cx} {pins : List (Addr × Obj)} {σ : L2.St} {H : Hp} {s : Shared} (I : Inv X pins σ H s) : ∀ {bs : List (V × PyData)} {us : List Value}, (∀ b ∈ bs, Dp X.K H b.1 b.2 ∧ b.2.depth ≤ 8) → PySem.W.EachIs (fun (u : Value) (b : V × PyData) => RelV b.1 u) us bs →
    PySem.W.EachIs (fun u b => ∃ as, Reads s.heap u b.2 as) us bs
  | _, _, _, .nil => .nil
  | b :: bs, _, h, .cons r t => .cons (Dp.reads I b.2 b.1 _ (h b List.mem_cons_self).1 r) (each_dp I (fun x m => h x (List.mem_cons_of_mem _ m)) t)
theorem cr_sortedDt {X : Cx} (hu : X.A.units + 64 < cLine) : CallR X (.builtin "sorted") (rSortedDt X.K) := by
  intro pins s σ H vs us Q I r h
  obtain ⟨a, bs, rfl, hs, hd, hal, hk, q⟩ := h
  obtain ⟨its, rv, hl, hz⟩ := I.list hs
  rw [Vals.ref1 r]
  have e := each_of_vals rv
  have er := each_dp I hd e
  have hlen : bs.length ≤ sizeLine := by
    rw [List.length_map] at hz
    exact hz
  refine PySem.W.sorted_data hl.isList e er hal hk hlen (fun b hb => ?_) fun out ho eo => ?_
  · have := (hd b hb).2
    omega
  obtain ⟨ep, he'⟩ := PyProof.Rows.sortedAll_at s.heap its out.toArray
  refine ⟨.ref _, upd H (s.heap.objs.size + 1) (.lst ((bs.mergeSort (PySem.W.dataLe false (·.2))).map (·.1))), I.laid (t' := s.toks) (fun _ _ => PyProof.Rows.sortedAll_old) (Nat.le_succ _) ⟨?_, out, ep, vals_of_each eo, he'⟩, rfl, q _ (I.hok.fresh (Nat.le_succ _))⟩
  rw [List.length_map, List.length_mergeSort]
  exact hlen
end Wm

/-! The middle faces. -/
namespace Wm
open PySem PySem.Spec PyProof.Rows L2
theorem ms2 {α : Type} {le : α → α → Bool} {x y : α} : [x, y].mergeSort le = if le x y = true then [x, y] else [y, x] := by
  simp [List.mergeSort, List.MergeSort.Internal.splitInTwo, List.merge]
theorem ms1 {α : Type} {le : α → α → Bool} {x : α} : [x].mergeSort le = [x] := by
  simp
def fdD (c : Int) (i : Bool) : PyData := .tuple [.int c, .str (sdS i)]
theorem alike_fd {c d : Int} {i j : Bool} : PySem.W.alike (fdD c i) (fdD d j) = true := by
  unfold fdD
  simp [PySem.W.alike, PySem.W.alikeAll]
theorem depth_fd {c : Int} {i : Bool} : (fdD c i).depth ≤ 8 := by
  have : (fdD c i).depth = 1 := by
    unfold fdD PyData.depth
    simp [PyData.depthAll, PyData.depth]
  omega
/-- whether a face comes ahead of another one, or is it -/
def leF (c : Int) (i : Bool) (d : Int) (j : Bool) : Bool := PySem.W.dataLe false (fun x : PyData => x) (fdD c i) (fdD d j)
section
variable {K : PySem.W.Frag} {H : Hp} {Q : VK} {a u v : Addr} {c d : Int} {i j : Bool}
theorem Fc.dp (e : Fc H u c i) : Dp K H (.ref u) (fdD c i) := .tup (.inl (.inl e)) (.cons (.int c) (.cons (.str _) .nil))
theorem x_sort1 (e : H a = some (.lst [.ref u])) (f : Fc H u c i) (h : ∀ p, H p = none → Q (.ref p) (upd H p (.lst [.ref u]))) : rSortedDt K [.ref a] H Q :=
  ⟨a, [(.ref u, fdD c i)], rfl, .inl (.inl e), fun b m => by
    rw [List.mem_singleton] at m
    subst m
    exact ⟨f.dp, depth_fd⟩, fun x m y m' => by
    simp only [List.map_cons, List.map_nil, List.mem_singleton] at m m'
    subst m m'
    exact alike_fd, .inl fun x m => by
    simp only [List.map_cons, List.map_nil, List.mem_singleton] at m
    subst m
    exact ⟨_, _, rfl⟩, fun p hp => by rw [ms1]; exact h p hp⟩
theorem x_sort2 (e : H a = some (.lst [.ref u, .ref v])) (f : Fc H u c i) (g : Fc H v d j) (h : ∀ p, H p = none → Q (.ref p) (upd H p (.lst (if leF c i d j = true then [.ref u, .ref v] else [.ref v, .ref u])))) : rSortedDt K [.ref a] H Q :=
  ⟨a, [(.ref u, fdD c i), (.ref v, fdD d j)], rfl, .inl (.inl e), fun b m => by
    simp only [List.mem_cons, List.not_mem_nil, or_false] at m
    rcases m with rfl | rfl
    · exact ⟨f.dp, depth_fd⟩
    · exact ⟨g.dp, depth_fd⟩, fun x m y m' => by
    simp only [List.map_cons, List.map_nil, List.mem_cons, List.not_mem_nil, or_false] at m m'
    rcases m with rfl | rfl <;> rcases m' with rfl | rfl <;> exact alike_fd, .inl fun x m => by
    simp only [List.map_cons, List.map_nil, List.mem_cons, List.not_mem_nil, or_false] at m
    rcases m with rfl | rfl <;> exact ⟨_, _, rfl⟩, fun p hp => by
    rw [ms2]
    have e2 : PySem.W.dataLe false (fun x : V × PyData => x.2) (V.ref u, fdD c i) (V.ref v, fdD d j) = leF c i d j := rfl
    rw [e2]
    have h' := h p hp
    cases hl : leF c i d j
    · rw [hl] at h'; exact h'
    · rw [hl] at h'; exact h'⟩
end
theorem none_of {H H' : Hp} {p : Addr} (s : Same H H') (h : H' p = none) : H p = none := by
  cases e : H p with
  | none => rfl
  | some o => rw [s _ _ e] at h; cases h
/-- the face so many touches from the one end told -/
def mdC (f s n c : Int) (i : Bool) (k : Int) : Int := owC f s n (enS f s n c i) (enSi f s n c i) (enE f s n c i) (enEi f s n c i) k
def mdI (f s n c : Int) (i : Bool) (k : Int) : Bool := owI f s (enS f s n c i) (enSi f s n c i) (enE f s n c i) (enEi f s n c i) k
def mdLe (f s n c : Int) (i : Bool) : Bool := leF (mdC f s n c i (enM f s n c i / 2)) (mdI f s n c i (enM f s n c i / 2)) (mdC f s n c i (enM f s n c i / 2 + 1)) (mdI f s n c i (enM f s n c i / 2 + 1))
section
variable (K : PySem.W.Frag)
def sp_middle : Sp := fun vs H Q _ => ∃ (p : Addr) (f s n : Int) (q : Addr) (c : Int) (i : Bool), vs = [.ref p, .int n, .ref q] ∧ Drm K H p f s ∧ Fc H q c i ∧ 0 ≤ c ∧ c < n ∧ n < 2 ^ 600 ∧
  (¬ enM f s n c i % 2 = 1 → ∀ (r u : Addr) (H' : Hp), Same H H' → H r = none → H' r = some (.lst [.ref u]) → Fc H' u (mdC f s n c i (enM f s n c i / 2)) (mdI f s n c i (enM f s n c i / 2)) → Q (.ref r) H') ∧
  (enM f s n c i % 2 = 1 → ∀ (r u v : Addr) (H' : Hp), Same H H' → H r = none → H' r = some (.lst (if mdLe f s n c i = true then [.ref u, .ref v] else [.ref v, .ref u])) → Fc H' u (mdC f s n c i (enM f s n c i / 2)) (mdI f s n c i (enM f s n c i / 2)) →
    Fc H' v (mdC f s n c i (enM f s n c i / 2 + 1)) (mdI f s n c i (enM f s n c i / 2 + 1)) → Q (.ref r) H')
end
theorem y_middle {K : PySem.W.Frag} {H : Hp} {Q : VK} {E : XK} {p q : Addr} {f s n c : Int} {i : Bool} (d : Drm K H p f s) (e : Fc H q c i) (h0 : 0 ≤ c) (h1 : c < n) (h2 : n < 2 ^ 600)
    (k1 : ¬ enM f s n c i % 2 = 1 → ∀ (r u : Addr) (H' : Hp), Same H H' → H' r = some (.lst [.ref u]) → Fc H' u (mdC f s n c i (enM f s n c i / 2)) (mdI f s n c i (enM f s n c i / 2)) → Q (.ref r) H')
    (k2 : enM f s n c i % 2 = 1 → ∀ (r u v : Addr) (H' : Hp), Same H H' → H' r = some (.lst (if mdLe f s n c i = true then [.ref u, .ref v] else [.ref v, .ref u])) → Fc H' u (mdC f s n c i (enM f s n c i / 2)) (mdI f s n c i (enM f s n c i / 2)) →
      Fc H' v (mdC f s n c i (enM f s n c i / 2 + 1)) (mdI f s n c i (enM f s n c i / 2 + 1)) → Q (.ref r) H') : sp_middle K [.ref p, .int n, .ref q] H Q E := ⟨p, f, s, n, q, c, i, rfl, d, e, h0, h1, h2, fun o r u H' s _ => k1 o r u H' s, fun o r u v H' s _ => k2 o r u v H' s⟩
end Wm

/-! f(k = v, ..): all by keywords, in the reverse of the def's order. -/
namespace Wm
open PySem PySem.Spec PyProof.Rows L2
def tCallN0 (m : Nat) (sp : Sp) (gV : List V → List V → List V) (E : XK) (tk : TA) : TE := fun σ H Q => tk σ H fun zs H2 => zs.length = m ∧ sp (gV [] zs) H2 Q E
section
variable {X : Cx} {CX : CXT} {k : Nat} {f : Addr} {fd : FuncData} {ps ks : List Str} {sp : Sp} {E : XK} {x : Str} {p pos : Pos} {kws : List Keyword} {tk : TA} {g : List Value → List Value → List Value} {gV : List V → List V → List V}
theorem pe_callN0 (F : FnOk X.prog X.w X.K X.mg X.base CX k f fd ps sp) (hr : Room k X.A) (hg : Gl X x) (hm : X.mg x = some (.ref f)) (hk : PySem.W.keepIn X.K (.ref f) = true) (hb : KBn X.K fd ps 0 ks g gV) (hx : Passes CX X E)
    (hkw : PK X kws tk) (hall : (backToKw pos (keywordEach kws X.env)).all (·.1.isSome) = true := by rfl) (hks : (backToKw pos (keywordEach kws X.env)).filterMap (·.1) = ks := by rfl)
    (hdb : (x == ("__debug__" : Str)) = false := by decide)
    (hpl : ((backTo pos (starEach [] X.env)).any (·.1) || (backToKw pos (keywordEach kws X.env)).any (·.1.isNone)) = false := by rfl) :
    PE X (.Call (.Name x p) [] kws pos) (tCallN0 ks.length sp gV E tk) := by
  refine ⟨fun pins s σ H Q I h => ?_⟩
  refine wpAny_Call_Name_kw (ld_glob I hg hm ?_ hdb)
  refine PySem.W.callWith_KW0 (first := []) (h₀ := X.base) I.ok.mod.kin hk hall (thn (hkw.run pos pins s σ H _ I h) fun ws s2 ⟨zs, H2, I2, rz, l2, q2⟩ => ⟨I2.kIn, ?_⟩) hpl
  rw [hks]
  exact run_fnN (us := []) (vs := []) F hr hb hx I2 .nil rz rfl l2 q2
end
theorem vals_rev : ∀ {zs : List V} {ws : List Value}, Vals zs ws → Vals zs.reverse ws.reverse
  | _, _, .nil => .nil
  | z :: zs, w :: ws, .cons r t => by
    rw [List.reverse_cons, List.reverse_cons]
    exact (vals_rev t).append (.cons r .nil)
theorem rel_rev {vs : List V} {us : List Value} {zs : List V} {ws : List Value} (h : Vals vs us) (k : Vals zs ws) : Vals (vs ++ zs.reverse) (us ++ ws.reverse) := h.append (vals_rev k)
section
variable {σ : L2.St} {H : Hp} {Q : VK} {E : XK} {k : Nat} {sp : Sp} {gV : List V → List V → List V} {tk : TA}
theorem x_callN0 (h : tk σ H fun zs H2 => zs.length = k ∧ sp (gV [] zs) H2 Q E) : tCallN0 k sp gV E tk σ H Q := h
end
end Wm

/-! == of like data. -/
namespace Wm
open PySem PySem.Spec PyProof.Rows L2
theorem eqv_fd {c : Int} {i : Bool} : PyData.eqv (fdD c i) (fdD c i) = true := by
  unfold fdD
  rw [PyData.eqv]
  simp [PyData.eqvAll, PyData.eqv]
theorem lay_fd {c : Int} {i : Bool} : PyData.canLay0 (fdD c i) = true := by
  have h0 : PyData.strOk (sdS i) = true := by cases i <;> decide +kernel
  unfold fdD PyData.canLay0
  simp [PyData.canLayAll0, PyData.canLay0, h0]
theorem depth1_fd {c : Int} {i : Bool} : (fdD c i).depth = 1 := by
  unfold fdD PyData.depth
  simp [PyData.depthAll, PyData.depth]
theorem eqv_ints (ns : List Int) : PyData.eqv (.tuple (ns.map PyData.int)) (.tuple (ns.map PyData.int)) = true := by
  rw [PyData.eqv, eqvAll_ints]; simp
section
variable {K : PySem.W.Frag} {H : Hp} {Q : VK} {p q : Addr}
theorem x_eqSame {x y : V} {d : PyData} (a : Dp K H x d) (b : Dp K H y d) (sh : SeqAt.shaped d = true) (e : PyData.eqv d d = true) (h : Q (.bl true) H) : rEqD K x y H Q := ⟨d, d, a, b, sh, sh, by rw [e]; exact h⟩
theorem x_eqS2 {a b : Int} (hp : H p = some (.tup [.int a, .int b])) (hq : H q = some (.tup [.int a, .int b])) (h : Q (.bl true) H) : rEqD K (.ref p) (.ref q) H Q :=
  x_eqSame (d := .tuple ([a, b].map PyData.int)) (.tup (.inl (.inl hp)) (dpAll_ints [a, b])) (.tup (.inl (.inl hq)) (dpAll_ints [a, b])) (shaped_ints _ (Nat.le_of_ble_eq_true rfl)) (eqv_ints _) h
theorem x_eqSF {c : Int} {i : Bool} (hp : Fc H p c i) (hq : Fc H q c i) (h : Q (.bl true) H) : rEqD K (.ref p) (.ref q) H Q :=
  x_eqSame hp.dp hq.dp (shaped_fc c i) eqv_fd h
theorem x_eqSP {v w v' w' : V} {o u : Option (Int × Int)} (hp : H p = some (.tup [v, w])) (hq : H q = some (.tup [v', w'])) (a : PairV H v o) (b : PairV H w u) (a' : PairV H v' o) (b' : PairV H w' u) (h : Q (.bl true) H) : rEqD K (.ref p) (.ref q) H Q :=
  x_eqSame (d := .tuple [pdO o, pdO u]) (.tup (.inl (.inl hp)) (.cons a.dp (.cons b.dp .nil))) (.tup (.inl (.inl hq)) (.cons a'.dp (.cons b'.dp .nil))) (shaped_pp o u) (by
    rw [PyData.eqv]
    simp [PyData.eqvAll, eqv_pd]) h
theorem x_eqSE {m c d : Int} {i j : Bool} {u v u' v' : Addr} (hp : H p = some (.tup [.int m, .ref u, .ref v])) (hq : H q = some (.tup [.int m, .ref u', .ref v'])) (a : Fc H u c i) (b : Fc H v d j) (a' : Fc H u' c i) (b' : Fc H v' d j) (h : Q (.bl true) H) : rEqD K (.ref p) (.ref q) H Q :=
  x_eqSame (d := .tuple [.int m, fdD c i, fdD d j]) (.tup (.inl (.inl hp)) (.cons (.int m) (.cons a.dp (.cons b.dp .nil)))) (.tup (.inl (.inl hq)) (.cons (.int m) (.cons a'.dp (.cons b'.dp .nil)))) (by
    unfold SeqAt.shaped
    have h1 : PyData.canLay0 (.tuple [.int m, fdD c i, fdD d j]) = true := by
      unfold PyData.canLay0
      simp [PyData.canLayAll0, lay_fd, PyData.canLay0]
    have h2 : PyData.depth (.tuple [.int m, fdD c i, fdD d j]) = 2 := by
      unfold PyData.depth
      simp [PyData.depthAll, depth1_fd, PyData.depth]
    rw [h1, h2]
    decide) (by
    rw [PyData.eqv]
    simp [PyData.eqvAll, eqv_fd, PyData.eqv]) h
theorem x_eqSL1 {c : Int} {i : Bool} {u u' : Addr} (hp : H p = some (.lst [.ref u])) (hq : H q = some (.lst [.ref u'])) (a : Fc H u c i) (a' : Fc H u' c i) (h : Q (.bl true) H) : rEqD K (.ref p) (.ref q) H Q :=
  x_eqSame (d := .list [fdD c i]) (.lst (.inl (.inl hp)) (.cons a.dp .nil)) (.lst (.inl (.inl hq)) (.cons a'.dp .nil)) (by
    unfold SeqAt.shaped
    have h1 : PyData.canLay0 (.list [fdD c i]) = true := by
      unfold PyData.canLay0
      simp [PyData.canLayAll0, lay_fd]
    have h2 : PyData.depth (.list [fdD c i]) = 2 := by
      unfold PyData.depth
      simp [PyData.depthAll, depth1_fd]
    rw [h1, h2]
    decide) (by
    rw [PyData.eqv]
    simp [PyData.eqvAll, eqv_fd]) h
theorem x_eqSL2 {c d : Int} {i j : Bool} {u v u' v' : Addr} (hp : H p = some (.lst [.ref u, .ref v])) (hq : H q = some (.lst [.ref u', .ref v'])) (a : Fc H u c i) (b : Fc H v d j) (a' : Fc H u' c i) (b' : Fc H v' d j) (h : Q (.bl true) H) : rEqD K (.ref p) (.ref q) H Q :=
  x_eqSame (d := .list [fdD c i, fdD d j]) (.lst (.inl (.inl hp)) (.cons a.dp (.cons b.dp .nil))) (.lst (.inl (.inl hq)) (.cons a'.dp (.cons b'.dp .nil))) (by
    unfold SeqAt.shaped
    have h1 : PyData.canLay0 (.list [fdD c i, fdD d j]) = true := by
      unfold PyData.canLay0
      simp [PyData.canLayAll0, lay_fd]
    have h2 : PyData.depth (.list [fdD c i, fdD d j]) = 2 := by
      unfold PyData.depth
      simp [PyData.depthAll, depth1_fd]
    rw [h1, h2]
    decide) (by
    rw [PyData.eqv]
    simp [PyData.eqvAll, eqv_fd]) h
end
/-- what the law of names keeps on the heap -/
structure S42 (K : PySem.W.Frag) (H : Hp) (w : Addr) (f s : Int) (a b e : Addr) (x y z : Int) (r1 r2 : Addr) (l1 l2 u1 u2 : Int) (ls : Addr) (k : Nat) (lp : Addr) (cells : List V) : Prop where
  D : Drm K H w f s
  A : Fc H a x true
  B : Fc H b y false
  C : Fc H e z true
  E1 : H r1 = some (.tup [.int l1, .int l2])
  E2 : H r2 = some (.tup [.int u1, .int u2])
  L : H ls = some (.lst (List.replicate k (V.bl true)))
  P : H lp = some (.lst cells)
  ne : lp ≠ ls
section
variable {K : PySem.W.Frag} {H H' : Hp} {w : Addr} {f s : Int} {a b e : Addr} {x y z : Int} {r1 r2 : Addr} {l1 l2 u1 u2 : Int} {ls : Addr} {k : Nat} {lp : Addr} {cells : List V} {Q : VK}
theorem S42.same (S : S42 K H w f s a b e x y z r1 r2 l1 l2 u1 u2 ls k lp cells) (h : Same H H') : S42 K H' w f s a b e x y z r1 r2 l1 l2 u1 u2 ls k lp cells :=
  ⟨S.D.same h, h _ _ S.A, h _ _ S.B, h _ _ S.C, h _ _ S.E1, h _ _ S.E2, h _ _ S.L, h _ _ S.P, S.ne⟩
theorem S42.app (S : S42 K H w f s a b e x y z r1 r2 l1 l2 u1 u2 ls k lp cells) : S42 K (upd H ls (.lst (List.replicate k (V.bl true) ++ [V.bl true]))) w f s a b e x y z r1 r2 l1 l2 u1 u2 ls (k + 1) lp cells := by
  refine ⟨Drm.set S.L S.D, ?_, ?_, ?_, ?_, ?_, ?_, ?_, S.ne⟩
  · exact (upd_ne (ne_of S.A S.L (by intro z; cases z))).trans S.A
  · exact (upd_ne (ne_of S.B S.L (by intro z; cases z))).trans S.B
  · exact (upd_ne (ne_of S.C S.L (by intro z; cases z))).trans S.C
  · exact (upd_ne (ne_of S.E1 S.L (by intro z; cases z))).trans S.E1
  · exact (upd_ne (ne_of S.E2 S.L (by intro z; cases z))).trans S.E2
  · rw [List.replicate_succ']
    exact upd_same
  · exact (upd_ne S.ne).trans S.P
/-- one more truth is put behind -/
theorem x_app42 {t : Bool} (S : S42 K H w f s a b e x y z r1 r2 l1 l2 u1 u2 ls k lp cells) (ht : t = true) (hk : k ≤ 1000)
    (h : ∀ H', S42 K H' w f s a b e x y z r1 r2 l1 l2 u1 u2 ls (k + 1) lp cells → Q .non H') : rAppend (.ref ls) [.bl t] H Q := by
  subst ht
  exact x_append S.L (by rw [List.length_replicate]; exact hk) (h _ S.app)
theorem x_all42 (e : H ls = some (.lst (List.replicate k (V.bl true)))) (h : Q (.bl true) H) : rAll K [.ref ls] H Q :=
  ⟨ls, List.replicate k true, rfl, .inl (.inl (by rw [List.map_replicate]; exact e)), by
    have e2 : (List.replicate k true).all id = true := by simp
    rw [e2]; exact h⟩
end
theorem k42f {f s n : Int} (hf : 1 ≤ f) (hs : 0 ≤ s) (c0 : 0 ≤ n - 1) (z : ¬ gNo f s n (n - 1) true) :
    (0 ≤ pLo f s (gL f s (n - 1) true) ∧ pLo f s (gL f s (n - 1) true) < n ∧ ¬ gNo f s n (pLo f s (gL f s (n - 1) true)) false ∧ hang f s n (n - 1) true (pLo f s (gL f s (n - 1) true)) false) ∧
    (0 ≤ pFi f s (gL f s (n - 1) true) ∧ pFi f s (gL f s (n - 1) true) < n ∧ hang f s n (n - 1) true (pFi f s (gL f s (n - 1) true)) true) := by
  obtain ⟨U, L⟩ := hang_piece hf hs c0 (by omega) z
  obtain ⟨g0, g1, g2⟩ := gL_nn hf hs c0 (by omega) z
  obtain ⟨m0, w1, v1, b0, b1, b2, b3, b4, b5, b6, b7, b8, b9⟩ := piece_facts hf hs g0 g2
  obtain ⟨u0, u1, u2, u3, u4⟩ := U _ (Int.le_refl _) b1
  obtain ⟨v0, v1, v2, v3, v4⟩ := U _ b1 (Int.le_refl _)
  have nz : ¬ tOf f s (pLa f s n (gL f s (n - 1) true)) = 0 := by have := tOf_nn hf hs g0; omega
  have hh := (ab_bnH hf hs v0 nz).1
  obtain ⟨l0, l1, l2, l3⟩ := L _ (Int.le_refl _) (by omega)
  exact ⟨⟨l0, l1, l2, l3⟩, u0, u1, u3⟩
/-- what middle tells -/
def MidR (H : Hp) (f s n c : Int) (i : Bool) (r : Addr) : Prop :=
  (∃ u, H r = some (.lst [.ref u]) ∧ Fc H u (mdC f s n c i (enM f s n c i / 2)) (mdI f s n c i (enM f s n c i / 2)) ∧ ¬ enM f s n c i % 2 = 1) ∨
  (∃ u v, H r = some (.lst (if mdLe f s n c i = true then [.ref u, .ref v] else [.ref v, .ref u])) ∧ Fc H u (mdC f s n c i (enM f s n c i / 2)) (mdI f s n c i (enM f s n c i / 2)) ∧
    Fc H v (mdC f s n c i (enM f s n c i / 2 + 1)) (mdI f s n c i (enM f s n c i / 2 + 1)) ∧ enM f s n c i % 2 = 1)
theorem MidR.same {H H' : Hp} {f s n c : Int} {i : Bool} {r : Addr} (m : MidR H f s n c i r) (h : Same H H') : MidR H' f s n c i r := by
  rcases m with ⟨u, a, b, o⟩ | ⟨u, v, a, b, d, o⟩
  · exact .inl ⟨u, h _ _ a, h _ _ b, o⟩
  · exact .inr ⟨u, v, h _ _ a, h _ _ b, h _ _ d, o⟩
theorem y_middleR {K : PySem.W.Frag} {H : Hp} {Q : VK} {E : XK} {p q : Addr} {f s n c : Int} {i : Bool} (d : Drm K H p f s) (e : Fc H q c i) (h0 : 0 ≤ c) (h1 : c < n) (h2 : n < 2 ^ 600)
    (k : ∀ (r : Addr) (H' : Hp), Same H H' → MidR H' f s n c i r → Q (.ref r) H') : sp_middle K [.ref p, .int n, .ref q] H Q E :=
  y_middle d e h0 h1 h2 (fun o r u H' s a b => k r H' s (.inl ⟨u, a, b, o⟩)) (fun o r u v H' s a b c => k r H' s (.inr ⟨u, v, a, b, c, o⟩))
theorem x_eqSM {K : PySem.W.Frag} {H : Hp} {Q : VK} {p q : Addr} {f s n c : Int} {i : Bool} (a : MidR H f s n c i p) (b : MidR H f s n c i q) (h : Q (.bl true) H) : rEqD K (.ref p) (.ref q) H Q := by
  rcases a with ⟨u, a1, a2, o⟩ | ⟨u, v, a1, a2, a3, o⟩ <;> rcases b with ⟨u', b1, b2, o'⟩ | ⟨u', v', b1, b2, b3, o'⟩
  · exact x_eqSL1 a1 b1 a2 b2 h
  · exact absurd o' o
  · exact absurd o o'
  · cases hl : mdLe f s n c i
    · rw [hl] at a1 b1
      exact x_eqSL2 a1 b1 a3 a2 b3 b2 h
    · rw [hl] at a1 b1
      exact x_eqSL2 a1 b1 a2 a3 b2 b3 h
end Wm

/-! What two neighbours of a turn bear in common; ways between three faces. -/
namespace Wm
/-- how far two grounds are apart -/
def dI (a b r u v t : Int) : Int := r + 2 * max (max 0 (u - b)) (a - v) + t
theorem ow_even {a b r u v t m : Int} (w1 : a ≤ b ∧ b ≤ a + r) (w2 : u ≤ v ∧ v ≤ u + t) (r0 : 0 ≤ r) (r1 : r ≤ 1) (t0 : 0 ≤ t) (t1 : t ≤ 1) (m0 : 0 < m) (m1 : m < dI a b r u v t) (ev : (m - r) % 2 = 0) :
    dI a b r (amL a b u (m - r)) (amL a b u (m - r)) 0 = m ∧ dI (amL a b u (m - r)) (amL a b u (m - r)) 0 u v t = dI a b r u v t - m ∧ ¬ (r = 0 ∧ amL a b u (m - r) = a) ∧ ¬ (t = 0 ∧ amL a b u (m - r) = u) ∧ min a u ≤ amL a b u (m - r) ∧ amL a b u (m - r) ≤ max b v := by
  unfold amL amW
  have e : ∀ x : Int, (if amS a b u ≤ u then (1 : Int) else -1) * x = if amS a b u ≤ u then x else -x := by
    intro x; split <;> omega
  rw [e]
  unfold dI at *
  by_cases c : amS a b u ≤ u
  · simp only [if_pos c]
    unfold amS at *
    omega
  · simp only [if_neg c]
    unfold amS at *
    omega
theorem ow_odd {a b r u v t m : Int} (w1 : a ≤ b ∧ b ≤ a + r) (w2 : u ≤ v ∧ v ≤ u + t) (r0 : 0 ≤ r) (r1 : r ≤ 1) (t0 : 0 ≤ t) (t1 : t ≤ 1) (m0 : 0 < m) (m1 : m < dI a b r u v t) (ev : ¬ (m - r) % 2 = 0) :
    dI a b r (min (amL a b u (m - r)) (amL a b u (m - r) + amW a b u)) (min (amL a b u (m - r)) (amL a b u (m - r) + amW a b u) + 1) 1 = m ∧ dI (min (amL a b u (m - r)) (amL a b u (m - r) + amW a b u)) (min (amL a b u (m - r)) (amL a b u (m - r) + amW a b u) + 1) 1 u v t = dI a b r u v t - m ∧
    ¬ (r = 1 ∧ min (amL a b u (m - r)) (amL a b u (m - r) + amW a b u) = a ∧ min (amL a b u (m - r)) (amL a b u (m - r) + amW a b u) + 1 = b) ∧ ¬ (t = 1 ∧ min (amL a b u (m - r)) (amL a b u (m - r) + amW a b u) = u ∧ min (amL a b u (m - r)) (amL a b u (m - r) + amW a b u) + 1 = v) ∧
    min a u ≤ min (amL a b u (m - r)) (amL a b u (m - r) + amW a b u) ∧ min (amL a b u (m - r)) (amL a b u (m - r) + amW a b u) + 1 ≤ max b v := by
  unfold amL amW
  have e : ∀ x : Int, (if amS a b u ≤ u then (1 : Int) else -1) * x = if amS a b u ≤ u then x else -x := by
    intro x; split <;> omega
  rw [e]
  unfold dI at *
  by_cases c : amS a b u ≤ u
  · simp only [if_pos c]
    unfold amS at *
    omega
  · simp only [if_neg c]
    unfold amS at *
    omega

/-- two grounds of unlike faces -/
def neG (a b r u v t : Int) : Prop := ¬ (r = 0 ∧ t = 0 ∧ a = u) ∧ ¬ (r = 1 ∧ t = 1 ∧ a = u ∧ b = v ∧ b = a + 1)
theorem gap_cases (a b u v : Int) (h : a ≤ b) (h' : u ≤ v) : (b < u ∧ max (max 0 (u - b)) (a - v) = u - b) ∨ (v < a ∧ max (max 0 (u - b)) (a - v) = a - v) ∨ (u ≤ b ∧ a ≤ v ∧ max (max 0 (u - b)) (a - v) = 0) := by omega
theorem amL_cases {a b u T : Int} (w : a ≤ b) (w' : b ≤ a + 1) : (b ≤ u ∧ amL a b u T = b + T / 2 ∧ amW a b u = 1) ∨ (u < b ∧ u = a ∧ amL a b u T = a + T / 2 ∧ amW a b u = 1) ∨ (u < a ∧ amL a b u T = a - T / 2 ∧ amW a b u = -1) := by
  rcases (by omega : b ≤ u ∨ (u < b ∧ u = a) ∨ u < a) with h | ⟨h, h2⟩ | h
  · have e : amS a b u = b := by unfold amS; omega
    have e2 : amW a b u = 1 := by unfold amW; rw [e, if_pos h]
    refine .inl ⟨h, ?_, e2⟩
    unfold amL; rw [e, e2]; omega
  · have e : amS a b u = a := by unfold amS; omega
    have e2 : amW a b u = 1 := by unfold amW; rw [e, if_pos (by omega)]
    refine .inr (.inl ⟨h, h2, ?_, e2⟩)
    unfold amL; rw [e, e2]; omega
  · have e : amS a b u = a := by unfold amS; omega
    have e2 : amW a b u = -1 := by unfold amW; rw [e, if_neg (by omega)]
    refine .inr (.inr ⟨h, ?_, e2⟩)
    unfold amL; rw [e, e2]; omega
theorem ow_even3 {a b r u v t x y z m : Int} (w1 : a ≤ b ∧ b ≤ a + r) (w2 : u ≤ v ∧ v ≤ u + t) (w3 : x ≤ y ∧ y ≤ x + z) (r0 : 0 ≤ r) (r1 : r ≤ 1) (t0 : 0 ≤ t) (t1 : t ≤ 1) (z0 : 0 ≤ z) (z1 : z ≤ 1)
    (n1 : neG a b r u v t) (n2 : neG a b r x y z) (n3 : neG u v t x y z) (hm : 2 * m = dI a b r u v t + dI a b r x y z - dI u v t x y z) (m0 : 0 < m) (m1 : m < dI a b r u v t) (ev : (m - r) % 2 = 0) :
    dI (amL a b u (m - r)) (amL a b u (m - r)) 0 x y z = dI a b r x y z - m := by
  obtain ⟨h, hh⟩ : ∃ h, m - r = 2 * h := ⟨(m - r) / 2, by omega⟩
  have C := amL_cases (T := m - r) (u := u) w1.1 (show b ≤ a + 1 by omega)
  have hd : (m - r) / 2 = h := by omega
  rw [hd] at C
  clear hd ev
  generalize amL a b u (m - r) = L at *
  generalize amW a b u = W at *
  unfold dI neG at *
  have G1 := gap_cases a b u v w1.1 w2.1
  have G2 := gap_cases a b x y w1.1 w3.1
  have G3 := gap_cases u v x y w2.1 w3.1
  have G4 := gap_cases L L x y (Int.le_refl _) w3.1
  generalize max (max 0 (u - b)) (a - v) = g1 at *
  generalize max (max 0 (x - b)) (a - y) = g2 at *
  generalize max (max 0 (x - v)) (u - y) = g3 at *
  generalize max (max 0 (x - L)) (L - y) = g4 at *
  obtain rfl : m = 2 * h + r := by omega
  rcases C with ⟨c1, rfl, _⟩ | ⟨c1, rfl, rfl, _⟩ | ⟨c1, rfl, _⟩ <;> rcases G1 with ⟨c2, rfl⟩ | ⟨c2, rfl⟩ | ⟨c2, c3, rfl⟩ <;> try omega
  all_goals (rcases G2 with ⟨c4, rfl⟩ | ⟨c4, rfl⟩ | ⟨c4, c5, rfl⟩ <;> rcases G3 with ⟨c6, rfl⟩ | ⟨c6, rfl⟩ | ⟨c6, c7, rfl⟩ <;> try omega)
theorem ow_odd3 {a b r u v t x y z m : Int} (w1 : a ≤ b ∧ b ≤ a + r) (w2 : u ≤ v ∧ v ≤ u + t) (w3 : x ≤ y ∧ y ≤ x + z) (r0 : 0 ≤ r) (r1 : r ≤ 1) (t0 : 0 ≤ t) (t1 : t ≤ 1) (z0 : 0 ≤ z) (z1 : z ≤ 1)
    (n1 : neG a b r u v t) (n2 : neG a b r x y z) (n3 : neG u v t x y z) (hm : 2 * m = dI a b r u v t + dI a b r x y z - dI u v t x y z) (m0 : 0 < m) (m1 : m < dI a b r u v t) (ev : ¬ (m - r) % 2 = 0) :
    (z = 1 ∧ x = min (amL a b u (m - r)) (amL a b u (m - r) + amW a b u) ∧ y = x + 1 ∧ dI a b r x y z - m = 0) ∨
    (¬ (z = 1 ∧ x = min (amL a b u (m - r)) (amL a b u (m - r) + amW a b u) ∧ y = x + 1) ∧ dI (min (amL a b u (m - r)) (amL a b u (m - r) + amW a b u)) (min (amL a b u (m - r)) (amL a b u (m - r) + amW a b u) + 1) 1 x y z = dI a b r x y z - m) := by
  obtain ⟨h, hh⟩ : ∃ h, m - r = 2 * h + 1 := ⟨(m - r) / 2, by omega⟩
  have C := amL_cases (T := m - r) (u := u) w1.1 (show b ≤ a + 1 by omega)
  have hd : (m - r) / 2 = h := by omega
  rw [hd] at C
  clear hd ev
  obtain ⟨q, hq⟩ : ∃ q, q = min (amL a b u (m - r)) (amL a b u (m - r) + amW a b u) := ⟨_, rfl⟩
  rw [← hq]
  have C' : (b ≤ u ∧ q = b + h) ∨ (u < b ∧ u = a ∧ q = a + h) ∨ (u < a ∧ q = a - h - 1) := by omega
  clear C hq
  generalize amL a b u (m - r) = L at *
  generalize amW a b u = W at *
  unfold dI neG at *
  have G1 := gap_cases a b u v w1.1 w2.1
  have G2 := gap_cases a b x y w1.1 w3.1
  have G3 := gap_cases u v x y w2.1 w3.1
  have G4 := gap_cases q (q + 1) x y (by omega) w3.1
  generalize max (max 0 (u - b)) (a - v) = g1 at *
  generalize max (max 0 (x - b)) (a - y) = g2 at *
  generalize max (max 0 (x - v)) (u - y) = g3 at *
  generalize max (max 0 (x - (q + 1))) (q - y) = g4 at *
  obtain rfl : m = 2 * h + 1 + r := by omega
  rcases C' with ⟨c1, rfl⟩ | ⟨c1, rfl, rfl⟩ | ⟨c1, rfl⟩ <;> rcases G1 with ⟨c2, rfl⟩ | ⟨c2, rfl⟩ | ⟨c2, c3, rfl⟩ <;> try omega
  all_goals (rcases G2 with ⟨c4, rfl⟩ | ⟨c4, rfl⟩ | ⟨c4, c5, rfl⟩ <;> rcases G3 with ⟨c6, rfl⟩ | ⟨c6, rfl⟩ | ⟨c6, c7, rfl⟩ <;> try omega)

theorem bn_rng {f s u : Int} (hf : 1 ≤ f) (hs : 0 ≤ s) (hu : 0 ≤ u) (nu : ¬ tOf f s u = 0) : ∃ t l, u = Bg f s (t + 1) + l ∧ 0 ≤ t ∧ 0 ≤ l ∧ l < f + t * s + s ∧ tOf f s u = t + 1 ∧ bnL f s u = Bg f s t + l * (f + t * s) / (f + t * s + s) ∧ bnH f s u = Bg f s t + ((l + 1) * (f + t * s) - 1) / (f + t * s + s) ∧
    0 ≤ l * (f + t * s) / (f + t * s + s) ∧ ((l + 1) * (f + t * s) - 1) / (f + t * s + s) < f + t * s := by
  obtain ⟨t, l, e, t0, l0, l1⟩ := cell_tl hf hs hu
  obtain ⟨e1, e2, e3⟩ := where_at hf hs t0 l0 l1
  rw [← e] at e1
  obtain ⟨u', rfl⟩ : ∃ u, t = u + 1 := ⟨t - 1, by omega⟩
  have u0 : 0 ≤ u' := by omega
  have ez : f + (u' + 1) * s = f + u' * s + s := by grind
  have us := mul_nn u0 hs
  rw [ez] at l1
  obtain ⟨_, n2, n3⟩ := bn_at hf hs u0 l0 l1
  rw [← e] at n2 n3
  have hz : 0 < f + u' * s + s := by omega
  have ha : 0 < f + u' * s := by omega
  have lm : 0 ≤ l * (f + u' * s) := mul_nn l0 (by omega)
  have e5 : (l + 1) * (f + u' * s) = l * (f + u' * s) + (f + u' * s) := by grind
  have q0 : 0 ≤ l * (f + u' * s) / (f + u' * s + s) := Int.ediv_nonneg lm (by omega)
  have q1 : ((l + 1) * (f + u' * s) - 1) / (f + u' * s + s) < f + u' * s := by
    apply Int.ediv_lt_of_lt_mul hz
    have := Int.mul_le_mul_of_nonneg_right (show l + 1 ≤ f + u' * s + s by omega) (show 0 ≤ f + u' * s by omega)
    have e6 : (f + u' * s) * (f + u' * s + s) = (f + u' * s + s) * (f + u' * s) := Int.mul_comm _ _
    omega
  exact ⟨u', l, e, u0, l0, l1, e1, n2, n3, q0, q1⟩
theorem touch_iff {f s u x : Int} (hf : 1 ≤ f) (hs : 0 ≤ s) (hu : 0 ≤ u) (nu : ¬ tOf f s u = 0) (hx : 0 ≤ x) : (bnL f s u ≤ x ∧ x ≤ bnH f s u) ↔ (abL f s x ≤ u ∧ u ≤ abH f s x) := by
  obtain ⟨t, l, e, t0, l0, l1, e1, n2, n3, q0, q1⟩ := bn_rng hf hs hu nu
  obtain ⟨t', k, e', t0', k0, k1⟩ := cell_tl hf hs hx
  obtain ⟨aL, aH⟩ := ab_at hf hs t0' k0 k1
  rw [← e'] at aL aH
  have ts := mul_nn t0 hs
  have ts' := mul_nn t0' hs
  obtain ⟨o0, o1, o2, _⟩ := over_facts k0 k1 (show f + t' * s ≤ f + t' * s + s by omega)
  have b1 := bg_succ f s t
  have b2 := bg_succ f s t'
  have b3 := bg_succ f s (t' + 1)
  have b4 := bg_succ f s (t + 1)
  have ez : f + (t + 1) * s = f + t * s + s := by grind
  have ez' : f + (t' + 1) * s = f + t' * s + s := by grind
  rw [ez] at b4
  rw [ez'] at b3
  rcases (by omega : t' = t ∨ t' + 1 ≤ t ∨ t + 1 ≤ t') with h | h | h
  · subst h
    have M1 := meet_lo (u := l) (z := f + t' * s + s) (l := k) (e := f + t' * s) (by omega) (by omega)
    have M2 := meet_hi (u := l) (z := f + t' * s + s) (l := k) (e := f + t' * s) (by omega) (by omega)
    rw [n2, n3, aL, aH]
    have ee : bnL f s u = bnL f s u := rfl
    constructor
    · rintro ⟨x1, x2⟩
      have := M2.mpr (M1.mp ⟨by omega, by omega⟩)
      omega
    · rintro ⟨x1, x2⟩
      have := M1.mpr (M2.mp ⟨by omega, by omega⟩)
      omega
  · have m1 := bg_mono hf hs (show 0 ≤ t' + 1 by omega) h
    have m2 := bg_mono hf hs (show 0 ≤ t' + 1 + 1 by omega) (show t' + 1 + 1 ≤ t + 1 by omega)
    constructor
    · rintro ⟨x1, x2⟩; omega
    · rintro ⟨x1, x2⟩; omega
  · have m1 := bg_mono hf hs (show 0 ≤ t + 1 by omega) h
    have m2 := bg_mono hf hs (show 0 ≤ t + 1 + 1 by omega) (show t + 1 + 1 ≤ t' + 1 by omega)
    constructor
    · rintro ⟨x1, x2⟩; omega
    · rintro ⟨x1, x2⟩; omega
/-- two neighbours of a turn -/
theorem ab_step {f s t l : Int} (hf : 1 ≤ f) (hs : 0 ≤ s) (ht : 0 ≤ t) (l0 : 0 ≤ l) (l1 : l + 1 < f + t * s) :
    abH f s (Bg f s t + l) ≤ abL f s (Bg f s t + l + 1) ∧ abL f s (Bg f s t + l + 1) ≤ abH f s (Bg f s t + l) + 1 ∧ (¬ gcdI f s = 0 → ¬ (l + 1).fmod ((f + t * s) / gcdI f s) = 0 → abL f s (Bg f s t + l + 1) = abH f s (Bg f s t + l)) := by
  have ts := mul_nn ht hs
  obtain ⟨aL, aH⟩ := ab_at hf hs ht l0 (show l < f + t * s by omega)
  obtain ⟨aL2, aH2⟩ := ab_at hf hs ht (show 0 ≤ l + 1 by omega) l1
  have e : Bg f s t + l + 1 = Bg f s t + (l + 1) := by omega
  have O := over_step (x := l + 1) hf hs ht
  rw [e, aH, aL2]
  refine ⟨?_, ?_, fun _ h => ?_⟩
  · split at O <;> omega
  · split at O <;> omega
  · rw [decide_eq_false h] at O
    simp only [Bool.false_eq_true, if_false] at O
    omega
theorem up_unique {f s c d : Int} (hf : 1 ≤ f) (hs : 0 ≤ s) (c0 : 0 ≤ c) (nc : ¬ tOf f s c = 0) (d0 : 0 ≤ d) (nd : ¬ tOf f s d = 0) (h1 : bnL f s c = bnL f s d) (h2 : bnH f s c = bnH f s d) (h3 : bnH f s c = bnL f s c + 1) : c = d := by
  obtain ⟨t, l, e, t0, l0, l1, e1, n2, n3, q0, q1⟩ := bn_rng hf hs c0 nc
  have bb := bg_ge hf hs t0
  have S := (ab_step (l := bnL f s c - Bg f s t) hf hs t0 (by omega) (by omega)).1
  have e2 : Bg f s t + (bnL f s c - Bg f s t) = bnL f s c := by omega
  rw [e2] at S
  have A1 := (touch_iff (x := bnL f s c) hf hs c0 nc (by omega)).mp ⟨Int.le_refl _, by omega⟩
  have A2 := (touch_iff (x := bnL f s c + 1) hf hs c0 nc (by omega)).mp ⟨by omega, by omega⟩
  have B1 := (touch_iff (x := bnL f s c) hf hs d0 nd (by omega)).mp ⟨by omega, by omega⟩
  have B2 := (touch_iff (x := bnL f s c + 1) hf hs d0 nd (by omega)).mp ⟨by omega, by omega⟩
  omega
/-- the grounds of unlike faces -/
theorem face_ne {f s n c d : Int} {i j : Bool} (hf : 1 ≤ f) (hs : 0 ≤ s) (c0 : 0 ≤ c) (d0 : 0 ≤ d) (h1 : ¬ gNo f s n c i) (h2 : ¬ gNo f s n d j) (ne : ¬ (c = d ∧ i = j)) : neG (gL f s c i) (gH f s c i) (rsI i) (gL f s d j) (gH f s d j) (rsI j) := by
  cases i <;> cases j
  · refine ⟨fun ⟨_, _, h⟩ => ne ⟨h, rfl⟩, fun ⟨h, _⟩ => ?_⟩
    exact absurd h (by decide)
  · exact ⟨fun ⟨_, h, _⟩ => absurd h (by decide), fun ⟨h, _⟩ => absurd h (by decide)⟩
  · exact ⟨fun ⟨h, _⟩ => absurd h (by decide), fun ⟨_, h, _⟩ => absurd h (by decide)⟩
  · refine ⟨fun ⟨h, _⟩ => absurd h (by decide), fun ⟨_, _, a, b, e⟩ => ne ⟨?_, rfl⟩⟩
    unfold gNo at h1 h2
    simp at h1 h2
    exact up_unique hf hs c0 h1 d0 h2 a b e
theorem ap_dI {f s c d : Int} {i j : Bool} (ne : ¬ (c = d ∧ i = j)) : apI f s c i d j = dI (gL f s c i) (gH f s c i) (rsI i) (gL f s d j) (gH f s d j) (rsI j) := by
  unfold apI dI; rw [if_neg ne]
/-- a face between two neighbours of a piece -/
theorem link {f s n c : Int} {i : Bool} (hf : 1 ≤ f) (hs : 0 ≤ s) (hc : 0 ≤ c) (h1 : c < n) (z : ¬ gNo f s n c i) {x : Int} (x1 : pLo f s (gL f s c i) ≤ x) (x2 : x + 1 ≤ bnH f s (pLa f s n (gL f s c i))) :
    abH f s x = abL f s (x + 1) ∧ 0 ≤ abL f s (x + 1) ∧ abL f s (x + 1) < n ∧ ¬ gNo f s n (abL f s (x + 1)) true ∧ bnL f s (abL f s (x + 1)) = x ∧ bnH f s (abL f s (x + 1)) = x + 1 ∧ hang f s n c i (abL f s (x + 1)) true := by
  obtain ⟨U, L⟩ := hang_piece hf hs hc h1 z
  obtain ⟨y0, y1, y2, y3⟩ := L (x + 1) (by omega) x2
  obtain ⟨v0, v1, v2, v3⟩ := L x x1 (by omega)
  obtain ⟨g0, g1, g2⟩ := gL_nn hf hs hc h1 z
  obtain ⟨m0, w1, w2, b0, b1, b2, b3, b4, b5, b6, b7, b8, b9⟩ := piece_facts hf hs g0 g2
  obtain ⟨u0, u1, u2, u3, u4⟩ := U _ b1 (Int.le_refl _)
  have nz : ¬ tOf f s (pLa f s n (gL f s c i)) = 0 := by have := tOf_nn hf hs g0; omega
  obtain ⟨t, l, e, t0, l0, l1, e1, n2, n3, q0, q1⟩ := bn_rng hf hs u0 nz
  have et : tOf f s (gL f s c i) = t := by omega
  have bb := bg_ge hf hs t0
  have ts := mul_nn t0 hs
  have gg := gcdI_pos (s := s) hf
  -- the sector's part
  have eA : siz f s (gL f s c i) / gcdI f s = (f + t * s) / gcdI f s := by unfold siz; rw [et]
  have eLo : pLo f s (gL f s c i) = Bg f s t + secN f s (gL f s c i) * ((f + t * s) / gcdI f s) := by unfold pLo; rw [et, eA]
  have ePr : prt f s (gL f s c i) = (f + t * s + s) / gcdI f s := by
    unfold prt; rw [et]
    have ez : f + (t + 1) * s = f + t * s + s := by grind
    rw [ez]
  have eFi : pFi f s (gL f s c i) = Bg f s (t + 1) + secN f s (gL f s c i) * ((f + t * s + s) / gcdI f s) := by unfold pFi; rw [et, ePr]
  have la : pLa f s n (gL f s c i) = min (pFi f s (gL f s c i) + prt f s (gL f s c i)) n - 1 := rfl
  have B := bn_sec (x := l) hf hs t0 l0 l1 m0 (by rw [e] at b1; omega) (by rw [ePr] at la; omega)
  rw [← e] at B
  obtain ⟨B1, B2, B3, B4, B5, B6, B7⟩ := B
  rw [eA] at w1 b9
  have hsec : (secN f s (gL f s c i) + 1) * ((f + t * s) / gcdI f s) = secN f s (gL f s c i) * ((f + t * s) / gcdI f s) + (f + t * s) / gcdI f s := by grind
  have mle : (secN f s (gL f s c i) + 1) * ((f + t * s) / gcdI f s) ≤ gcdI f s * ((f + t * s) / gcdI f s) := Int.mul_le_mul_of_nonneg_right b7 (by omega)
  have sz : gcdI f s * ((f + t * s) / gcdI f s) = f + t * s := by
    rw [b9]; unfold siz; rw [et]
  have mw := mul_nn m0 (show 0 ≤ (f + t * s) / gcdI f s by omega)
  have nm : ¬ (x - Bg f s t + 1).fmod ((f + t * s) / gcdI f s) = 0 := by
    rw [fmod_zero w1]
    rintro ⟨k, hk⟩
    generalize (f + t * s) / gcdI f s = w at *
    generalize secN f s (gL f s c i) = m at *
    have k1 : m * w < w * k := by omega
    have k2 : w * k < (m + 1) * w := by omega
    have c1 : w * m = m * w := Int.mul_comm _ _
    have c2 : w * (m + 1) = (m + 1) * w := Int.mul_comm _ _
    have k3 : m < k := Int.lt_of_mul_lt_mul_left (a := w) (by omega) (by omega)
    have k4 : k < m + 1 := Int.lt_of_mul_lt_mul_left (a := w) (by omega) (by omega)
    omega
  have S := ab_step (l := x - Bg f s t) hf hs t0 (by omega) (by omega)
  have e2 : Bg f s t + (x - Bg f s t) = x := by omega
  rw [e2] at S
  have S3 := S.2.2 (by omega) nm
  have y2' : abL f s (x + 1) < n := by unfold gNo at y2; simp at y2; omega
  have ab1 := (ab_next hf hs y0).2.2
  have nzu : ¬ tOf f s (abL f s (x + 1)) = 0 := by
    obtain ⟨o0, o1, o2, _⟩ := over_facts (l := x + 1 - Bg f s t) (z := f + t * s) (m := f + t * s + s) (by omega) (by omega) (by omega)
    have aa := (ab_at (l := x + 1 - Bg f s t) hf hs t0 (by omega) (by omega)).1
    have e3 : Bg f s t + (x + 1 - Bg f s t) = x + 1 := by omega
    rw [e3] at aa
    have ez : f + (t + 1) * s = f + t * s + s := by grind
    have w := (where_at (t := t + 1) (l := (x + 1 - Bg f s t) * (f + t * s + s) / (f + t * s)) hf hs (by omega) o0 (by rw [ez]; omega)).1
    rw [← aa] at w
    omega
  have T1 := (touch_iff (u := abL f s (x + 1)) (x := x) hf hs (by omega) nzu v0).mpr ⟨by have := (ab_next hf hs v0).1; omega, by omega⟩
  have T2 := (touch_iff (u := abL f s (x + 1)) (x := x + 1) hf hs (by omega) nzu y0).mpr ⟨Int.le_refl _, by
    obtain ⟨o0, o1, o2, _⟩ := over_facts (l := x + 1 - Bg f s t) (z := f + t * s) (m := f + t * s + s) (by omega) (by omega) (by omega)
    obtain ⟨aa, ah⟩ := ab_at (l := x + 1 - Bg f s t) hf hs t0 (by omega) (by omega)
    have e3 : Bg f s t + (x + 1 - Bg f s t) = x + 1 := by omega
    rw [e3] at aa ah
    omega⟩
  have W := bn_wide hf hs (show 0 ≤ abL f s (x + 1) by omega) nzu
  have ng : ¬ gNo f s n (abL f s (x + 1)) true := by unfold gNo; simp; exact nzu
  have eb : bnL f s (abL f s (x + 1)) = x := by omega
  have eh : bnH f s (abL f s (x + 1)) = x + 1 := by omega
  refine ⟨S3.symm, by omega, y2', ng, eb, eh, ?_⟩
  have tx : tOf f s x = t := tOf_eq hf hs t0 (by omega) (by omega) v0
  have sx : secN f s x = secN f s (gL f s c i) := by
    have := sec_at (y := x - Bg f s t) (m := secN f s (gL f s c i)) hf hs t0 (by omega) (by omega) (by omega) (by omega)
    rwa [e2] at this
  have ea : gL f s (abL f s (x + 1)) true = x := eb
  exact hang_of z ng (by rw [ea, tx, et]) (by rw [ea, sx]) (siz_of (by rw [ea, tx, et]))
end Wm

/-! Comprehensions; chains of three comparisons; lists of faces. -/
namespace Wm
open PySem PySem.Spec PyProof.Rows L2
/-! ### chains -/
def chJ (f : Hp → Prop) (Q : VK) (z : V) (H : Hp) : Prop := ∃ k, z = .bl k ∧ if k = true then f H else Q (.bl false) H
def tChain3 (r r' r'' : R2) (ta tb tc td : TE) : TE := fun σ H Q => ta σ H fun x H1 => tb σ H1 fun y H2 => r x y H2 fun z H3 =>
  chJ (fun H3 => tc σ H3 fun w' H4 => r' y w' H4 fun z' H5 => chJ (fun H5 => td σ H5 fun u' H6 => r'' w' u' H6 Q) Q z' H5) Q z H3
section
variable {X : Cx} {pos : Pos} {a b c d : Expr} {ta tb tc td : TE}
theorem pt_chain3 {op op' op'' : CmpOp} {r r' r'' : R2} (ho : OpR X (compareOp op) r) (ho' : OpR X (compareOp op') r') (ho'' : OpR X (compareOp op'') r'') (ha : PE X a ta) (hb : PE X b tb) (hc : PE X c tc) (hd : PE X d td)
    (hm : lastMarks [op, op', op''] [b, c, d] = false := by with_unfolding_all rfl) : PT X (.Compare a [op, op', op''] [b, c, d] pos) (tTest (tChain3 r r' r'' ta tb tc td)) := by
  refine ⟨fun pins s σ H Q I h => ?_⟩
  refine isTrue_chain (thn (ha.run pins s σ H _ I h) fun v s1 ⟨x, H1, I1, r1, q1⟩ => test_link (thn (hb.run pins s1 σ H1 _ I1 q1) fun u s2 ⟨y, H2, I2, r2, q2⟩ =>
    thn (ho pins s2 σ H2 x y v u _ I2 r1 r2 q2) fun d s3 ⟨z, H3, I3, r3, k, e, q3⟩ => ?_)) hm
  subst e
  cases r3
  refine wpAny_truthy_bool ?_
  cases k with
  | false =>
    obtain ⟨k', e', q'⟩ := q3
    cases e'
    exact ite_ff ⟨H3, I3, q'⟩
  | true =>
    refine ite_tt (test_link (thn (hc.run pins s3 σ H3 _ I3 q3) fun w' s4 ⟨z', H4, I4, r4, q4⟩ => thn (ho' pins s4 σ H4 y z' u w' _ I4 r2 r4 q4) fun d' s5 ⟨z2, H5, I5, r5, k2, e2, q5⟩ => ?_))
    subst e2
    cases r5
    refine wpAny_truthy_bool ?_
    cases k2 with
    | false =>
      obtain ⟨k', e', q'⟩ := q5
      cases e'
      exact ite_ff ⟨H5, I5, q'⟩
    | true =>
      refine ite_tt (test_last (thn (hd.run pins s5 σ H5 _ I5 q5) fun w5 s6 ⟨z5, H6, I6, r6, q6⟩ => thn (ho'' pins s6 σ H6 z' z5 w' w5 _ I6 r4 r6 q6) fun d6 s7 ⟨z7, H7, I7, r7, k7, e7, q7⟩ => ?_))
      subst e7
      cases r7
      exact wpAny_truthy_bool ⟨H7, I7, q7⟩
end
section
variable {K : PySem.W.Frag} {σ : L2.St} {H : Hp} {Q : VK} {ta tb tc td : TE} {r r' r'' : R2} {p : Addr} {xs : List V} {g : TG} {tt : TT} {te : TE} {vs : List Nat}
theorem x_chain3 (h : ta σ H fun x H1 => tb σ H1 fun y H2 => r x y H2 fun z H3 => chJ (fun H3 => tc σ H3 fun w' H4 => r' y w' H4 fun z' H5 => chJ (fun H5 => td σ H5 fun u' H6 => r'' w' u' H6 Q) Q z' H5) Q z H3) : tChain3 r r' r'' ta tb tc td σ H Q := h
theorem x_chJ {f : Hp → Prop} {k : Bool} (h : if k = true then f H else Q (.bl false) H) : chJ f Q (.bl k) H := ⟨k, rfl, h⟩
/-! ### the rules that speak of K, for within a comprehension's block -/
theorem room65 {k : Nat} {A : Around} (r : Room k A) : A.units + 65 < cLine := by have := r.un; omega
section
variable {X : Cx} {K : PySem.W.Frag}
theorem op_eqDK (e : X.K = K) (hu : X.A.units + 64 < cLine) : OpR X (compareOp .Eq) (rEqD K) := by subst e; exact op_eqD hu
theorem op_neDK (e : X.K = K) (hu : X.A.units + 64 < cLine) : OpR X (compareOp .NotEq) (rNeD K) := by subst e; exact op_neD hu
theorem op_inDK (e : X.K = K) (hu : X.A.units + 65 < cLine) : OpR X (compareOp .In) (rInD K) := by subst e; exact op_inD hu
theorem op_notInDK (e : X.K = K) (hu : X.A.units + 65 < cLine) : OpR X (compareOp .NotIn) (rNotInD K) := by subst e; exact op_notInD hu
theorem ix_listK (e : X.K = K) : IxR X (rIxL K) := by subst e; exact ix_list
theorem ix_tupK (e : X.K = K) : IxR X (rIxT K) := by subst e; exact ix_tup
theorem cl_lenK (e : X.K = K) : CallR X (.builtin "len") (rLn K) := by subst e; exact cl_len
theorem pg_tupK {es : List Expr} {k : Nat} {n : Nat} {p : Pos} {t : TGs} (e : X.K = K) (h : PG X (.Tuple es k p) (gTup X.K n t)) : PG X (.Tuple es k p) (gTup K n t) := by subst e; exact h
end
/-! ### comprehensions -/
/-- what is asked of a comprehension over J -/
def lcJ (J : It) (g : TG) (tt : TT) (te : TE) (vs : List Nat) (σ : L2.St) (Q : VK) (H1 : Hp) : Prop := ∀ D, H1 D = none → ∃ W : Nat → Nat → Hp → Prop, (∃ m, W 0 m (upd H1 D (.lst []))) ∧ ∀ i m H, W i m H →
  (J.stop i H ∧ Q (.ref D) H) ∨ (J.go i H ∧ ∃ Nx : Hp → Prop, (∀ H', Nx H' → ∃ m', m' < m ∧ W (i + 1) m' H') ∧ ∀ x H', J.yld i H x H' → g x (wipe σ vs) H' fun σ2 H2 => wipe σ2 vs = wipe σ vs ∧ tt σ2 H2 fun b H3 =>
    if b = true then te σ2 H3 fun y H4 => ∃ acc, H4 D = some (.lst acc) ∧ acc.length < sizeLine ∧ Nx (upd H4 D (.lst (acc ++ [y]))) else Nx H3)
def lcK (K : PySem.W.Frag) (g : TG) (tt : TT) (te : TE) (vs : List Nat) (σ : L2.St) (Q : VK) (x : V) (H : Hp) : Prop := ∃ a, x = .ref a ∧ (∃ xs, SqL K H a xs) ∧ lcJ (Itl K a) g tt te vs σ Q H
theorem x_lc {tl : TE} (h : tl σ H fun x H1 => lcK K g tt te vs σ Q x H1) : tLc (iList K tl) g tt te vs σ H Q := h
def lcT (K : PySem.W.Frag) (g : TG) (tt : TT) (te : TE) (vs : List Nat) (σ : L2.St) (Q : VK) (x : V) (H : Hp) : Prop := ∃ a, x = .ref a ∧ (∃ xs, SqT K H a xs) ∧ lcJ (Itt K a) g tt te vs σ Q H
theorem x_lcTup {tl : TE} (h : tl σ H fun x H1 => lcT K g tt te vs σ Q x H1) : tLc (iTup K tl) g tt te vs σ H Q := h
theorem x_lcW {tA : TA} (h : tA σ H fun ws H1 => asRW (fun J H => lcJ J g tt te vs σ Q H) ws H1) : tLc (iRngW tA) g tt te vs σ H Q := h
theorem x_lc1 {tA : TA} (h : tA σ H fun ws H1 => asR1 (fun J H => lcJ J g tt te vs σ Q H) ws H1) : tLc (iRng1 tA) g tt te vs σ H Q := h
theorem sizeLine_1000 {n : Nat} (h : n ≤ 1000) : n < sizeLine := Nat.lt_of_le_of_lt h (by decide)
def lcN (D : Addr) (j : Nat) (I : Nat → List V → Hp → Prop) (H : Hp) : Prop := ∃ acc, acc.length ≤ j ∧ H D = some (.lst acc) ∧ I j acc H
def lcA (D : Addr) (i : Nat) (I : Nat → List V → Hp → Prop) (y : V) (H : Hp) : Prop := ∃ acc, H D = some (.lst acc) ∧ acc.length < sizeLine ∧ lcN D (i + 1) I (upd H D (.lst (acc ++ [y])))
theorem x_lcN {D : Addr} {j i : Nat} {I : Nat → List V → Hp → Prop} {acc : List V} (e : H D = some (.lst acc)) (l : acc.length ≤ i) (hj : i ≤ j) (h : I j acc H) : lcN D j I H := ⟨acc, Nat.le_trans l hj, e, h⟩
theorem x_lcA {D : Addr} {i : Nat} {I : Nat → List V → Hp → Prop} {acc : List V} {y : V} (e : H D = some (.lst acc)) (l : acc.length ≤ i) (hi : i ≤ 1000) (h : I (i + 1) (acc ++ [y]) (upd H D (.lst (acc ++ [y])))) : lcA D i I y H :=
  ⟨acc, e, sizeLine_1000 (Nat.le_trans l hi), acc ++ [y], by simp; exact l, upd_same, h⟩
theorem x_lcL {σ0 : L2.St} (hw : wipe σ vs = σ0) (e : H p = some (.lst xs)) (l : xs.length ≤ 1000) (I : Nat → List V → Hp → Prop)
    (h0 : ∀ D, H D = none → I 0 [] (upd H D (.lst []))) (hl : ∀ i acc H', I i acc H' → H' p = some (.lst xs))
    (hs : ∀ D i x acc H', H D = none → i < xs.length → xs[i]? = some x → I i acc H' → H' D = some (.lst acc) → acc.length ≤ i → i ≤ 1000 → g x σ0 H' fun σ2 H2 => wipe σ2 vs = σ0 ∧ tt σ2 H2 fun b H3 =>
      if b = true then te σ2 H3 fun y H4 => lcA D i I y H4 else lcN D (i + 1) I H3)
    (hd : ∀ D acc H', H D = none → H' D = some (.lst acc) → I xs.length acc H' → Q (.ref D) H') : lcK K g tt te vs σ Q (.ref p) H := by
  subst hw
  refine ⟨p, rfl, ⟨_, sql e⟩, fun D hD => ?_⟩
  refine ⟨fun i m H' => m = xs.length - i ∧ i ≤ xs.length ∧ lcN D i I H', ⟨xs.length, by simp, Nat.zero_le _, [], by simp, upd_same, h0 D hD⟩, ?_⟩
  rintro i m H' ⟨rfl, hi, acc, la, ea, q⟩
  have el := hl i acc H' q
  by_cases hlt : i < xs.length
  · refine .inr ⟨⟨xs, xs[i], sql el, by simp [hlt]⟩, lcN D (i + 1) I, fun H2 p' => ⟨xs.length - (i + 1), by omega, rfl, hlt, p'⟩, fun x H2 y => ?_⟩
    obtain ⟨rfl, y⟩ := y
    exact hs D i x acc _ hD hlt (y xs (sql el)) q ea la (by omega)
  · have e2 : i = xs.length := by omega
    subst e2
    exact .inl ⟨⟨xs, sql el, Nat.le_refl _⟩, hd D acc H' hD ea q⟩
theorem x_lcT {σ0 : L2.St} (hw : wipe σ vs = σ0) (e : H p = some (.tup xs)) (l : xs.length ≤ 1000) (I : Nat → List V → Hp → Prop)
    (h0 : ∀ D, H D = none → I 0 [] (upd H D (.lst []))) (hl : ∀ i acc H', I i acc H' → H' p = some (.tup xs))
    (hs : ∀ D i x acc H', H D = none → i < xs.length → xs[i]? = some x → I i acc H' → H' D = some (.lst acc) → acc.length ≤ i → i ≤ 1000 → g x σ0 H' fun σ2 H2 => wipe σ2 vs = σ0 ∧ tt σ2 H2 fun b H3 =>
      if b = true then te σ2 H3 fun y H4 => lcA D i I y H4 else lcN D (i + 1) I H3)
    (hd : ∀ D acc H', H D = none → H' D = some (.lst acc) → I xs.length acc H' → Q (.ref D) H') : lcT K g tt te vs σ Q (.ref p) H := by
  subst hw
  refine ⟨p, rfl, ⟨_, .inl (.inl e)⟩, fun D hD => ?_⟩
  refine ⟨fun i m H' => m = xs.length - i ∧ i ≤ xs.length ∧ lcN D i I H', ⟨xs.length, by simp, Nat.zero_le _, [], by simp, upd_same, h0 D hD⟩, ?_⟩
  rintro i m H' ⟨rfl, hi, acc, la, ea, q⟩
  have el := hl i acc H' q
  by_cases hlt : i < xs.length
  · refine .inr ⟨⟨xs, xs[i], .inl (.inl el), by simp [hlt]⟩, lcN D (i + 1) I, fun H2 p' => ⟨xs.length - (i + 1), by omega, rfl, hlt, p'⟩, fun x H2 y => ?_⟩
    obtain ⟨rfl, y⟩ := y
    exact hs D i x acc _ hD hlt (y xs (.inl (.inl el))) q ea la (by omega)
  · have e2 : i = xs.length := by omega
    subst e2
    exact .inl ⟨⟨xs, .inl (.inl el), Nat.le_refl _⟩, hd D acc H' hD ea q⟩
theorem x_lcR {σ0 : L2.St} {lo : Int} {n : Nat} (hw : wipe σ vs = σ0) (l : n ≤ 1000) (I : Nat → List V → Hp → Prop)
    (h0 : ∀ D, H D = none → I 0 [] (upd H D (.lst [])))
    (hs : ∀ D i acc H', H D = none → i < n → I i acc H' → H' D = some (.lst acc) → acc.length ≤ i → i ≤ 1000 → g (.int (lo + i)) σ0 H' fun σ2 H2 => wipe σ2 vs = σ0 ∧ tt σ2 H2 fun b H3 =>
      if b = true then te σ2 H3 fun y H4 => lcA D i I y H4 else lcN D (i + 1) I H3)
    (hd : ∀ D acc H', H D = none → H' D = some (.lst acc) → I n acc H' → Q (.ref D) H') : lcJ (Itr lo n) g tt te vs σ Q H := by
  subst hw
  refine fun D hD => ⟨fun i m H' => m = n - i ∧ i ≤ n ∧ lcN D i I H', ⟨n, by simp, Nat.zero_le _, [], by simp, upd_same, h0 D hD⟩, ?_⟩
  rintro i m H' ⟨rfl, hi, acc, la, ea, q⟩
  by_cases hlt : i < n
  · refine .inr ⟨hlt, lcN D (i + 1) I, fun H2 p' => ⟨n - (i + 1), by omega, rfl, hlt, p'⟩, fun x H2 y => ?_⟩
    obtain ⟨rfl, y⟩ := y
    subst y
    exact hs D i acc _ hD hlt q ea la (by omega)
  · have e2 : i = n := by omega
    subst e2
    exact .inl ⟨Nat.le_refl _, hd D acc H' hD ea q⟩
theorem x_yes {R : Bool → Hp → Prop} (h : R true H) : tYes σ H R := h
theorem x_wp {A : Prop} {σ2 σ0 : L2.St} (e : wipe σ2 vs = σ0) (h : A) : wipe σ2 vs = σ0 ∧ A := ⟨e, h⟩
/-! ### a new list, filled while the rest stands -/
theorem sameD {H0 H4 : Hp} {D : Addr} {o : HO} (hD : H0 D = none) (s : Same H0 H4) : Same H0 (upd H4 D o) := fun b o' e => by
  rw [upd_ne (ne_of_none e hD)]; exact s _ _ e
theorem butD {a : Addr} {H0 H4 : Hp} {D : Addr} {o : HO} (hD : H0 D = none) (s : But a H0 H4) : But a H0 (upd H4 D o) := fun b o' n e => by
  rw [upd_ne (ne_of_none e hD)]; exact s _ _ n e
/-- a list of faces of one side -/
def FcL (H : Hp) (i : Bool) : List V → List Int → Prop
  | [], [] => True
  | v :: vs, c :: cs => (∃ r, v = .ref r ∧ Fc H r c i) ∧ FcL H i vs cs
  | _, _ => False
theorem FcL.same {H' : Hp} {i : Bool} (s : Same H H') : ∀ {vs : List V} {cs : List Int}, FcL H i vs cs → FcL H' i vs cs
  | [], [], h => h
  | _ :: _, _ :: _, ⟨⟨r, e, h⟩, t⟩ => ⟨⟨r, e, s _ _ h⟩, FcL.same s t⟩
  | [], _ :: _, h => h.elim
  | _ :: _, [], h => h.elim
theorem FcL.set {D : Addr} {i : Bool} {ys zs : List V} (e : H D = some (.lst ys)) : ∀ {vs : List V} {cs : List Int}, FcL H i vs cs → FcL (upd H D (.lst zs)) i vs cs
  | [], [], h => h
  | _ :: _, _ :: _, ⟨⟨r, e1, h⟩, t⟩ => ⟨⟨r, e1, by show (upd H D (.lst zs)) r = _; rw [upd_ne (ne_of h e (by intro z; cases z))]; exact h⟩, FcL.set e t⟩
  | [], _ :: _, h => h.elim
  | _ :: _, [], h => h.elim
theorem FcL.app {i : Bool} {r : Addr} {c : Int} : ∀ {vs : List V} {cs : List Int}, FcL H i vs cs → Fc H r c i → FcL H i (vs ++ [.ref r]) (cs ++ [c])
  | [], [], _, h => ⟨⟨r, rfl, h⟩, trivial⟩
  | _ :: _, _ :: _, ⟨a, t⟩, h => ⟨a, FcL.app t h⟩
  | [], _ :: _, h, _ => h.elim
  | _ :: _, [], h, _ => h.elim
theorem FcL.len {i : Bool} : ∀ {vs : List V} {cs : List Int}, FcL H i vs cs → vs.length = cs.length
  | [], [], _ => rfl
  | _ :: _, _ :: _, ⟨_, t⟩ => congrArg (· + 1) (FcL.len t)
  | [], _ :: _, h => h.elim
  | _ :: _, [], h => h.elim
theorem FcL.at {i : Bool} : ∀ {vs : List V} {cs : List Int} {k : Nat} {x : V}, FcL H i vs cs → vs[k]? = some x → ∃ r c, x = .ref r ∧ cs[k]? = some c ∧ Fc H r c i
  | _ :: _, _ :: _, 0, _, ⟨⟨r, e, h⟩, _⟩, hx => by
    simp only [List.getElem?_cons_zero, Option.some.injEq] at hx
    subst hx
    exact ⟨r, _, e, by simp, h⟩
  | _ :: _, _ :: _, k + 1, _, ⟨_, t⟩, hx => by
    simp only [List.getElem?_cons_succ] at hx
    obtain ⟨r, c, e, h1, h2⟩ := FcL.at t hx
    exact ⟨r, c, e, by simpa using h1, h2⟩
  | [], [], k, _, _, hx => by simp at hx
  | [], _ :: _, _, _, h, _ => h.elim
  | _ :: _, [], _, _, h, _ => h.elim
end
end Wm

/-! Where drums are parted: fractions of the least bottom, the promises of told. -/
namespace Wm
/-! ### fractions of the least bottom -/
structure IsLA (l0 l1 h0 h1 t b : Int) : Prop where
  pos : 0 < b
  lo : l0 * b < t * l1
  hi : t * h1 ≤ h0 * b
  min : ∀ x y : Int, 0 < y → l0 * y < x * l1 → x * h1 ≤ h0 * y → b ≤ y ∧ t ≤ x
structure IsLF (l0 l1 h0 h1 t b : Int) : Prop where
  pos : 0 < b
  lo : l0 * b ≤ t * l1
  hi : t * h1 < h0 * b
  min : ∀ x y : Int, 0 < y → l0 * y ≤ x * l1 → x * h1 < h0 * y → b ≤ y ∧ t ≤ x
/-- what may be asked -/
structure VA (l0 l1 h0 h1 : Int) : Prop where
  kl0 : 0 ≤ l0
  kl1 : 1 ≤ l1
  kh0 : 1 ≤ h0
  kh1 : 1 ≤ h1
  lt : l0 * h1 < h0 * l1
  b0 : l0 < 2 ^ 60
  b1 : l1 < 2 ^ 60
  b2 : h0 < 2 ^ 60
  b3 : h1 < 2 ^ 60
structure VF (l0 l1 h0 h1 : Int) : Prop where
  kl0 : 1 ≤ l0
  kl1 : 1 ≤ l1
  kh0 : 1 ≤ h0
  kh1 : 0 ≤ h1
  lt : l0 * h1 < h0 * l1
  b0 : l0 < 2 ^ 60
  b1 : l1 < 2 ^ 60
  b2 : h0 < 2 ^ 60
  b3 : h1 < 2 ^ 60
theorem nn_mul {a b : Int} (ha : 0 ≤ a) (hb : 0 ≤ b) : 0 ≤ a * b := Int.mul_nonneg ha hb
theorem lt_of_mul {a b c : Int} (hc : 0 ≤ c) (h : a * c < b * c) : a < b := Int.lt_of_mul_lt_mul_right h hc
theorem la_ret {l0 l1 h0 h1 w : Int} (v : VA l0 l1 h0 h1) (e1 : w * l1 ≤ l0) (e2 : l0 < (w + 1) * l1) (w0 : 0 ≤ w) (c : (w + 1) * h1 ≤ h0) : IsLA l0 l1 h0 h1 (w + 1) 1 where
  pos := by decide
  lo := by omega
  hi := by omega
  min := fun x y hy a b => by
    refine ⟨by omega, ?_⟩
    have h1 : w * l1 * y ≤ l0 * y := Int.mul_le_mul_of_nonneg_right e1 (by omega)
    have h2 : (w * y) * l1 < x * l1 := by
      have : w * l1 * y = (w * y) * l1 := by grind
      omega
    have h3 := lt_of_mul (by have := v.kl1; omega) h2
    have h4 : w * 1 ≤ w * y := Int.mul_le_mul_of_nonneg_left (by omega) w0
    omega
/-- turned over -/
theorem la_vf {l0 l1 h0 h1 w : Int} (v : VA l0 l1 h0 h1) (e1 : w * l1 ≤ l0) (e2 : l0 < (w + 1) * l1) (w0 : 0 ≤ w) (c : ¬ (w + 1) * h1 ≤ h0) : VF h1 (h0 - w * h1) l1 (l0 - w * l1) where
  kl0 := v.kh1
  kl1 := by
    have g1 : w * l1 * h1 ≤ l0 * h1 := Int.mul_le_mul_of_nonneg_right e1 (by have := v.kh1; omega)
    have h2 : (w * h1) * l1 < h0 * l1 := by
      have := v.lt
      have : w * l1 * h1 = (w * h1) * l1 := by grind
      omega
    have := lt_of_mul (by have := v.kl1; omega) h2
    omega
  kh0 := v.kl1
  kh1 := by omega
  lt := by
    have := v.lt
    have : h1 * (l0 - w * l1) = l0 * h1 - w * l1 * h1 := by grind
    have : l1 * (h0 - w * h1) = h0 * l1 - w * l1 * h1 := by grind
    omega
  b0 := v.b3
  b1 := by have := nn_mul w0 (show 0 ≤ h1 by have := v.kh1; omega); have := v.b2; omega
  b2 := v.b1
  b3 := by have := nn_mul w0 (show 0 ≤ l1 by have := v.kl1; omega); have := v.b0; omega
theorem la_of {l0 l1 h0 h1 w t b : Int} (v : VA l0 l1 h0 h1) (e1 : w * l1 ≤ l0) (w0 : 0 ≤ w) (r : IsLF h1 (h0 - w * h1) l1 (l0 - w * l1) t b) (t0 : 0 < t) : IsLA l0 l1 h0 h1 (w * t + b) t where
  pos := t0
  lo := by have := r.hi; have : t * (l0 - w * l1) = l0 * t - w * t * l1 := by grind
           have : (w * t + b) * l1 = w * t * l1 + l1 * b := by grind
           omega
  hi := by have := r.lo; have : t * (h0 - w * h1) = h0 * t - w * t * h1 := by grind
           have : (w * t + b) * h1 = w * t * h1 + h1 * b := by grind
           omega
  min := fun x y hy a c => by
    have h1' : w * l1 * y ≤ l0 * y := Int.mul_le_mul_of_nonneg_right e1 (by omega)
    have h2 : (w * y) * l1 < x * l1 := by
      have : w * l1 * y = (w * y) * l1 := by grind
      omega
    have h3 := lt_of_mul (by have := v.kl1; omega) h2
    have h5 : h1 * (x - w * y) = x * h1 - w * y * h1 := by grind
    have h6 : y * (h0 - w * h1) = h0 * y - w * y * h1 := by grind
    have h7 : y * (l0 - w * l1) = l0 * y - w * y * l1 := by grind
    have h8 : l1 * (x - w * y) = x * l1 - w * y * l1 := by grind
    have q := r.min y (x - w * y) (by omega) (by omega) (by omega)
    refine ⟨q.2, ?_⟩
    have : w * t ≤ w * y := Int.mul_le_mul_of_nonneg_left q.2 w0
    omega
theorem lf_ret {l0 l1 h0 h1 w : Int} (v : VF l0 l1 h0 h1) (e1 : (w - 1) * l1 < l0) (e2 : l0 ≤ w * l1) (w0 : 1 ≤ w) (c : w * h1 < h0) : IsLF l0 l1 h0 h1 w 1 where
  pos := by decide
  lo := by omega
  hi := by omega
  min := fun x y hy a b => by
    refine ⟨by omega, ?_⟩
    have h1 : (w - 1) * l1 * y < l0 * y := Int.mul_lt_mul_of_pos_right e1 hy
    have h2 : ((w - 1) * y) * l1 < x * l1 := by
      have : (w - 1) * l1 * y = ((w - 1) * y) * l1 := by grind
      omega
    have h3 := lt_of_mul (by have := v.kl1; omega) h2
    have h4 : (w - 1) * 1 ≤ (w - 1) * y := Int.mul_le_mul_of_nonneg_left (by omega) (by omega)
    omega
theorem lf_va {l0 l1 h0 h1 w : Int} (v : VF l0 l1 h0 h1) (e1 : (w - 1) * l1 < l0) (e2 : l0 ≤ w * l1) (w0 : 1 ≤ w) (c : ¬ w * h1 < h0) : VA h1 (h0 - (w - 1) * h1) l1 (l0 - (w - 1) * l1) where
  kl0 := v.kh1
  kl1 := by
    have g1 : (w - 1) * l1 * h1 ≤ l0 * h1 := Int.mul_le_mul_of_nonneg_right (by omega) v.kh1
    have h2 : ((w - 1) * h1) * l1 < h0 * l1 := by
      have := v.lt
      have : (w - 1) * l1 * h1 = ((w - 1) * h1) * l1 := by grind
      omega
    have := lt_of_mul (by have := v.kl1; omega) h2
    omega
  kh0 := v.kl1
  kh1 := by omega
  lt := by
    have := v.lt
    have : h1 * (l0 - (w - 1) * l1) = l0 * h1 - (w - 1) * l1 * h1 := by grind
    have : l1 * (h0 - (w - 1) * h1) = h0 * l1 - (w - 1) * l1 * h1 := by grind
    omega
  b0 := v.b3
  b1 := by have := nn_mul (show 0 ≤ w - 1 by omega) v.kh1; have := v.b2; omega
  b2 := v.b1
  b3 := by have := nn_mul (show 0 ≤ w - 1 by omega) (show 0 ≤ l1 by have := v.kl1; omega); have := v.b0; omega
theorem lf_of {l0 l1 h0 h1 w t b : Int} (v : VF l0 l1 h0 h1) (e1 : (w - 1) * l1 < l0) (w0 : 1 ≤ w) (r : IsLA h1 (h0 - (w - 1) * h1) l1 (l0 - (w - 1) * l1) t b) (t0 : 0 < t) : IsLF l0 l1 h0 h1 ((w - 1) * t + b) t where
  pos := t0
  lo := by have := r.hi; have : t * (l0 - (w - 1) * l1) = l0 * t - (w - 1) * t * l1 := by grind
           have : ((w - 1) * t + b) * l1 = (w - 1) * t * l1 + l1 * b := by grind
           omega
  hi := by have := r.lo; have : t * (h0 - (w - 1) * h1) = h0 * t - (w - 1) * t * h1 := by grind
           have : ((w - 1) * t + b) * h1 = (w - 1) * t * h1 + h1 * b := by grind
           omega
  min := fun x y hy a c => by
    have h1' : (w - 1) * l1 * y < l0 * y := Int.mul_lt_mul_of_pos_right e1 hy
    have h2 : ((w - 1) * y) * l1 < x * l1 := by
      have : (w - 1) * l1 * y = ((w - 1) * y) * l1 := by grind
      omega
    have h3 := lt_of_mul (by have := v.kl1; omega) h2
    have h5 : h1 * (x - (w - 1) * y) = x * h1 - (w - 1) * y * h1 := by grind
    have h6 : y * (h0 - (w - 1) * h1) = h0 * y - (w - 1) * y * h1 := by grind
    have h7 : y * (l0 - (w - 1) * l1) = l0 * y - (w - 1) * y * l1 := by grind
    have h8 : l1 * (x - (w - 1) * y) = x * l1 - (w - 1) * y * l1 := by grind
    have q := r.min y (x - (w - 1) * y) (by omega) (by omega) (by omega)
    refine ⟨q.2, ?_⟩
    have : (w - 1) * t ≤ (w - 1) * y := Int.mul_le_mul_of_nonneg_left q.2 (by omega)
    omega
/-- tops are above nought -/
theorem IsLA.top {l0 l1 h0 h1 t b : Int} (v : VA l0 l1 h0 h1) (r : IsLA l0 l1 h0 h1 t b) : 0 < t ∧ t ≤ h0 ∧ b ≤ h1 := by
  have a := nn_mul v.kl0 (show 0 ≤ b by have := r.pos; omega)
  have : 0 * l1 < t * l1 := by have := r.lo; omega
  have t0 := lt_of_mul (by have := v.kl1; omega) this
  have q := r.min h0 h1 v.kh1 v.lt (Int.le_refl _)
  exact ⟨t0, q.2, q.1⟩
theorem IsLF.top {l0 l1 h0 h1 t b : Int} (v : VF l0 l1 h0 h1) (r : IsLF l0 l1 h0 h1 t b) : 0 < t ∧ t ≤ l0 ∧ b ≤ l1 := by
  have a := Int.mul_pos (show 0 < l0 by have := v.kl0; omega) r.pos
  have : 0 * l1 < t * l1 := by have := r.lo; omega
  have t0 := lt_of_mul (by have := v.kl1; omega) this
  have q := r.min l0 l1 v.kl1 (Int.le_refl _) v.lt
  exact ⟨t0, q.2, q.1⟩
theorem IsLA.uniq {l0 l1 h0 h1 t b t' b' : Int} (r : IsLA l0 l1 h0 h1 t b) (q : IsLA l0 l1 h0 h1 t' b') : t = t' ∧ b = b' := by
  have a := r.min t' b' q.pos q.lo q.hi
  have c := q.min t b r.pos r.lo r.hi
  omega
theorem IsLF.uniq {l0 l1 h0 h1 t b t' b' : Int} (r : IsLF l0 l1 h0 h1 t b) (q : IsLF l0 l1 h0 h1 t' b') : t = t' ∧ b = b' := by
  have a := r.min t' b' q.pos q.lo q.hi
  have c := q.min t b r.pos r.lo r.hi
  omega
theorem sc_lt {n a b : Int} (hn : 0 < n) : n * a < n * b ↔ a < b := Int.mul_lt_mul_left hn
theorem sc_le {n a b : Int} (hn : 0 < n) : n * a ≤ n * b ↔ a ≤ b := Int.mul_le_mul_left hn
theorem IsLA.scale {n l0 l1 h0 h1 t b : Int} (hn : 0 < n) (r : IsLA l0 l1 h0 h1 t b) : IsLA (n * l0) (n * l1) (n * h0) (n * h1) t b where
  pos := r.pos
  lo := by have := (sc_lt hn).mpr r.lo; grind
  hi := by have := (sc_le hn).mpr r.hi; grind
  min := fun x y hy a c => r.min x y hy ((sc_lt hn).mp (by grind)) ((sc_le hn).mp (by grind))
theorem IsLF.scale {n l0 l1 h0 h1 t b : Int} (hn : 0 < n) (r : IsLF l0 l1 h0 h1 t b) : IsLF (n * l0) (n * l1) (n * h0) (n * h1) t b where
  pos := r.pos
  lo := by have := (sc_le hn).mpr r.lo; grind
  hi := by have := (sc_lt hn).mpr r.hi; grind
  min := fun x y hy a c => r.min x y hy ((sc_le hn).mp (by grind)) ((sc_lt hn).mp (by grind))
/-- the place of turn 1 at which drums of one first are parted -/
def PartP (f lo hi p : Int) : Prop := ∃ t b u e : Int, IsLA f (f + hi) f (f + lo) t b ∧ IsLF f (f + hi) f (f + lo) u e ∧ p = min b (e - 1)
theorem PartP.uniq {f lo hi p q : Int} (a : PartP f lo hi p) (c : PartP f lo hi q) : p = q := by
  obtain ⟨t, b, u, e, a1, a2, rfl⟩ := a
  obtain ⟨t', b', u', e', c1, c2, rfl⟩ := c
  obtain ⟨_, rfl⟩ := a1.uniq c1
  obtain ⟨_, rfl⟩ := a2.uniq c2
  rfl
theorem PartP.scale {n f lo hi p : Int} (hn : 0 < n) (a : PartP f lo hi p) : PartP (n * f) (n * lo) (n * hi) p := by
  obtain ⟨t, b, u, e, a1, a2, rfl⟩ := a
  refine ⟨t, b, u, e, ?_, ?_, rfl⟩
  · have := a1.scale hn
    rw [Int.mul_add, Int.mul_add] at this; exact this
  · have := a2.scale hn
    rw [Int.mul_add, Int.mul_add] at this; exact this
theorem va_part {f lo hi : Int} (hf : 1 ≤ f) (h0 : 0 ≤ lo) (h : lo < hi) (f2 : f < 2 ^ 58) (h2 : hi < 2 ^ 58) : VA f (f + hi) f (f + lo) where
  kl0 := by omega
  kl1 := by omega
  kh0 := by omega
  kh1 := by omega
  lt := by have := Int.mul_lt_mul_of_pos_left (show f + lo < f + hi by omega) (show 0 < f by omega); omega
  b0 := by omega
  b1 := by omega
  b2 := by omega
  b3 := by omega
theorem vf_part {f lo hi : Int} (hf : 1 ≤ f) (h0 : 0 ≤ lo) (h : lo < hi) (f2 : f < 2 ^ 58) (h2 : hi < 2 ^ 58) : VF f (f + hi) f (f + lo) where
  kl0 := by omega
  kl1 := by omega
  kh0 := by omega
  kh1 := by omega
  lt := by have := Int.mul_lt_mul_of_pos_left (show f + lo < f + hi by omega) (show 0 < f by omega); omega
  b0 := by omega
  b1 := by omega
  b2 := by omega
  b3 := by omega
theorem PartP.bd {f lo hi p : Int} (hf : 1 ≤ f) (h0 : 0 ≤ lo) (h : lo < hi) (a : PartP f lo hi p) : 0 ≤ p ∧ p ≤ f + lo := by
  obtain ⟨t, b, u, e, a1, a2, rfl⟩ := a
  have lt := Int.mul_lt_mul_of_pos_left (show f + lo < f + hi by omega) (show 0 < f by omega)
  have q := a1.min f (f + lo) (by omega) lt (Int.le_refl _)
  have := a1.pos
  have := a2.pos
  omega
/-- the measure: two steps halve the bottoms -/
theorem halves {h1 h0 l1 l0 w w' n : Int} (v : VF h1 (h0 - w * h1) l1 (l0 - w * l1)) (c : ¬ (w + 1) * h1 ≤ h0) (e2 : h1 ≤ w' * (h0 - w * h1)) (cc : ¬ w' * (l0 - w * l1) < l1) (hn : l1 + h1 ≤ n) :
    2 * ((h1 - (w' - 1) * (h0 - w * h1)) + (l1 - (w' - 1) * (l0 - w * l1))) ≤ n := by
  have c' : h0 - w * h1 < h1 := by
    have : (w + 1) * h1 = w * h1 + h1 := by grind
    omega
  have l1p := v.kl1
  have h1p := v.kh1
  generalize h0 - w * h1 = r at *
  generalize l0 - w * l1 = s at *
  have w2 : 2 ≤ w' := by
    apply Classical.byContradiction
    intro q
    have : w' * r ≤ 1 * r := Int.mul_le_mul_of_nonneg_right (by omega) (by omega)
    omega
  have a1 : 1 * r ≤ (w' - 1) * r := Int.mul_le_mul_of_nonneg_right (by omega) (by omega)
  have a2 : 1 * s ≤ (w' - 1) * s := Int.mul_le_mul_of_nonneg_right (by omega) (by omega)
  have a3 : w' * r = (w' - 1) * r + r := by grind
  have a4 : w' * s = (w' - 1) * s + s := by grind
  omega
end Wm
namespace Wm
open PySem PySem.Spec PyProof.Rows L2
section
variable {X : Cx} {CX : CXT} {C f : Addr} {fd : FuncData} {ps : List Str} {n : Nat} {sp : Sp}
/-- == by an own __eq__, either answer -/
def rEqI (C : Addr) (sp : Sp) : R2 := fun x y H Q => ∃ a b dx dy fs gs, x = .ref a ∧ y = .ref b ∧ H a = some (.ins C dx fs) ∧ H b = some (.ins C dy gs) ∧ sp [.ref a, .ref b] H (fun v H' => ∃ k, v = .bl k ∧ Q (.bl k) H') E0
theorem op_eqI (F : FnOk X.prog X.w X.K X.mg X.base CX0 n f fd ps sp) (M : Meth X.K C "__eq__" f) (hb : Binds X.K fd ps []) (hr : Room n X.A) : OpR X (compareOp .Eq) (rEqI C sp) := by
  intro pins s σ H x y v u Q I rx ry hq
  obtain ⟨a, b, dx, dy, fs, gs, rfl, rfl, ha, hb', hs⟩ := hq
  cases rx
  cases ry
  show wpAny (model X.prog X.w) X.A (richCompare .Eq _ _) (EP X pins σ Q) X.xe s
  obtain ⟨mA, J, _⟩ := ins_get I.hok ha
  obtain ⟨mB, J', _⟩ := ins_get I.hok hb'
  obtain ⟨od, J, _⟩ := J.look
  obtain ⟨od', J', _⟩ := J'.look
  obtain ⟨m, hF⟩ := I.fr
  refine PySem.W.cmp_K (op := .Eq) (tb := .ref C) hr.units0 hF I.ok.mod.kin J J'.type (by simp [PySem.W.notFirst]) M.at_ M.fn ?_
  have hl := F.len _ _ _ _ hs
  have bd := hb s [.ref a, .ref b] I.kIn (by simpa using hl)
  rw [List.append_nil] at bd
  have r2 : Vals [V.ref a, V.ref b] [Value.ref a, Value.ref b] := .cons rfl (.cons rfl .nil)
  refine wpAny_call (codeAny_mono (F.run X.A X.stack s H ⟨[.ref a, .ref b], []⟩ [.ref a, .ref b] [.ref a, .ref b] _ E0 hr I.env0 bd r2 hs) fun r s' hq => ?_)
  cases r with
  | error e => exact hq.elim
  | ok fl =>
    cases fl with
    | ret w =>
      obtain ⟨z, H', I', rz, k, ez, ex⟩ := I.after hq
      subst ez
      cases rz
      exact ⟨.bl k, H', I', rfl, ex⟩
    | next => exact False.elim hq
    | brk => exact False.elim hq
    | cont => exact False.elim hq
end
section
variable {K : PySem.W.Frag} {σ : L2.St} {H : Hp} {Q : VK} {E : XK} {p q a : Addr} {f s g t l n : Int}
theorem x_eqI {sp : Sp} (d : Drm K H p f s) (d' : Drm K H q g t) (h : sp [.ref p, .ref q] H (fun v H' => ∃ k, v = .bl k ∧ Q (.bl k) H') E0) : rEqI (He.ga K "Drum") sp (.ref p) (.ref q) H Q := by
  obtain ⟨dx, e⟩ := d.ob
  obtain ⟨dy, e'⟩ := d'.ob
  exact ⟨p, q, dx, dy, _, _, rfl, rfl, e, e', h⟩
theorem x_isC (d : Drm K H p f s) (h : Q (.bl true) H) : (fun (xs : List V) (H : Hp) (Q : VK) => ∃ a dx fs, xs = [.ref a, .ref (He.ga K "Drum")] ∧ H a = some (.ins (He.ga K "Drum") dx fs) ∧ Q (.bl true) H) [.ref p, .ref (He.ga K "Drum")] H Q := by
  obtain ⟨dx, e⟩ := d.ob
  exact ⟨p, dx, _, rfl, e, h⟩
theorem x_rNeBl {i j : Bool} (h : Q (.bl (!decide (i = j))) H) : rNe (.bl i) (.bl j) H Q := ⟨rfl, by
  have e : decide (V.bl i = V.bl j) = decide (i = j) := by cases i <;> cases j <;> decide
  rw [e]; exact h⟩
theorem x_rNeN {i : Int} (h : Q (.bl true) H) : rNe (.non) (.int i) H Q := ⟨rfl, by
  have e : decide (V.non = V.int i) = false := by simp
  rw [e]; exact h⟩
/-- two numbers sorted -/
theorem x_sortN2 {x y : Int} (e : H a = some (.lst [.int x, .int y])) (h : ∀ r, H r = none → Q (.ref r) (upd H r (.lst [.int (min x y), .int (max x y)]))) : rSorted K [.ref a] H Q := by
  refine ⟨a, [x, y], rfl, sql e, Nat.le_of_ble_eq_true rfl, fun ns' r hp hs hr => ?_⟩
  have : ns' = [min x y, max x y] := by
    match ns', hp, hs with
    | [], hp, _ => exact absurd hp.length_eq (by simp)
    | [_], hp, _ => exact absurd hp.length_eq (by simp)
    | [u, v], hp, hs =>
      have h1 : u = x ∨ u = y := by simpa using hp.mem_iff.mp (show u ∈ [u, v] by simp)
      have h2 : x = u ∨ x = v := by simpa using hp.symm.mem_iff.mp (show x ∈ [x, y] by simp)
      have h3 : y = u ∨ y = v := by simpa using hp.symm.mem_iff.mp (show y ∈ [x, y] by simp)
      have h4 : v = x ∨ v = y := by simpa using hp.mem_iff.mp (show v ∈ [u, v] by simp)
      have h5 : u ≤ v := by simpa using hs
      have : u = min x y := by omega
      have : v = max x y := by omega
      subst_vars
      first | rfl | (congr 1 <;> omega)
    | _ :: _ :: _ :: _, hp, _ => exact absurd hp.length_eq (by simp)
  rw [this]
  exact h r hr
theorem x_unl {n : Nat} {t : TGs} {xs : List V} {R : L2.St → Hp → Prop} (e : H a = some (.lst xs)) (l : xs.length = n) (h : t xs σ H R) : gUnl K n t (.ref a) σ H R := ⟨a, xs, rfl, sql e, l, h⟩
end
/-! ### promises -/
def PartV (f s g t : Int) (v : V) : Prop := (f = g ∧ s = t ∧ v = .non) ∨ (f ≠ g ∧ v = .int (min f g)) ∨ (f = g ∧ s ≠ t ∧ ∃ p, PartP f (min s t) (max s t) p ∧ v = .int (f + p))
section
variable (K : PySem.W.Frag)
def sp__check_drum : Sp := fun vs H Q _ => ∃ (z : Str) (p : Addr) (f s : Int), vs = [.str z, .ref p] ∧ Drm K H p f s ∧ Q .non H
def sp_Drumu__equ_ : Sp := fun vs H Q _ => ∃ (p q : Addr) (f s g t : Int), vs = [.ref p, .ref q] ∧ Drm K H p f s ∧ Drm K H q g t ∧ Q (.bl (decide (f = g ∧ s = t))) H
def sp__turned : Sp := fun vs H Q _ => ∃ (p : Addr) (x y w : Int), vs = [.ref p, .int w] ∧ H p = some (.tup [.int x, .int y]) ∧ Bd 200 w ∧ Bd 200 y ∧ ∀ (q : Addr) (H' : Hp), Same H H' → H' q = some (.tup [.int y, .int (x - w * y)]) → Q (.ref q) H'
def spLA (n : Nat) : Sp := fun vs H Q _ => ∃ (p q : Addr) (l0 l1 h0 h1 : Int), vs = [.ref p, .ref q] ∧ H p = some (.tup [.int l0, .int l1]) ∧ H q = some (.tup [.int h0, .int h1]) ∧ VA l0 l1 h0 h1 ∧ l1 + h1 ≤ 2 ^ n ∧
  ∀ (t b : Int) (r : Addr) (H' : Hp), IsLA l0 l1 h0 h1 t b → Same H H' → H' r = some (.tup [.int t, .int b]) → Q (.ref r) H'
def spLF (n : Nat) : Sp := fun vs H Q _ => 1 ≤ n ∧ ∃ (p q : Addr) (l0 l1 h0 h1 : Int), vs = [.ref p, .ref q] ∧ H p = some (.tup [.int l0, .int l1]) ∧ H q = some (.tup [.int h0, .int h1]) ∧ VF l0 l1 h0 h1 ∧
  (∀ w : Int, (w - 1) * l1 < l0 → l0 ≤ w * l1 → ¬ w * h1 < h0 → 2 * ((l0 - (w - 1) * l1) + (h0 - (w - 1) * h1)) ≤ 2 ^ n) ∧
  ∀ (t b : Int) (r : Addr) (H' : Hp), IsLF l0 l1 h0 h1 t b → Same H H' → H' r = some (.tup [.int t, .int b]) → Q (.ref r) H'
abbrev sp__least_above : Sp := spLA 58
abbrev sp__least_from : Sp := spLF 58
def sp_parted : Sp := fun vs H Q _ => ∃ (p q : Addr) (f s g t : Int), vs = [.ref p, .ref q] ∧ Drm K H p f s ∧ Drm K H q g t ∧ ∀ (v : V) (H' : Hp), PartV f s g t v → Same H H' → Q v H'
def sp_alike : Sp := fun vs H Q _ => ∃ (p q : Addr) (f s g t n : Int), vs = [.ref p, .ref q, .int n] ∧ Drm K H p f s ∧ Drm K H q g t ∧ 1 ≤ n ∧ ∀ (v : V) (k : Bool) (H' : Hp), PartV f s g t v → (∀ c, v = .int c → k = decide (n ≤ c)) → (v = .non → k = true) → Same H H' → Q (.bl k) H'
end
section
variable {K : PySem.W.Frag} {σ : L2.St} {H : Hp} {Q : VK} {E : XK} {p q a : Addr} {f s g t l n w x y l0 l1 h0 h1 : Int} {z : Str} {m : Nat}
theorem y_cdrum (d : Drm K H p f s) (h : Q .non H) : sp__check_drum K [.str z, .ref p] H Q E := ⟨z, p, f, s, rfl, d, h⟩
theorem y_deq (d : Drm K H p f s) (d' : Drm K H q g t) (h : Q (.bl (decide (f = g ∧ s = t))) H) : sp_Drumu__equ_ K [.ref p, .ref q] H Q E := ⟨p, q, f, s, g, t, rfl, d, d', h⟩
theorem y_turned (e : H p = some (.tup [.int x, .int y])) (bw : Bd 200 w) (by' : Bd 200 y) (h : ∀ (q : Addr) (H' : Hp), Same H H' → H' q = some (.tup [.int y, .int (x - w * y)]) → Q (.ref q) H') : sp__turned [.ref p, .int w] H Q E := ⟨p, x, y, w, rfl, e, bw, by', h⟩
theorem y_la (e : H p = some (.tup [.int l0, .int l1])) (e' : H q = some (.tup [.int h0, .int h1])) (v : VA l0 l1 h0 h1) (b : l1 + h1 ≤ 2 ^ m)
    (h : ∀ (t b : Int) (r : Addr) (H' : Hp), IsLA l0 l1 h0 h1 t b → Same H H' → H' r = some (.tup [.int t, .int b]) → Q (.ref r) H') : spLA m [.ref p, .ref q] H Q E := ⟨p, q, l0, l1, h0, h1, rfl, e, e', v, b, h⟩
theorem y_lf (hm : 1 ≤ m) (e : H p = some (.tup [.int l0, .int l1])) (e' : H q = some (.tup [.int h0, .int h1])) (v : VF l0 l1 h0 h1) (b : ∀ w : Int, (w - 1) * l1 < l0 → l0 ≤ w * l1 → ¬ w * h1 < h0 → 2 * ((l0 - (w - 1) * l1) + (h0 - (w - 1) * h1)) ≤ 2 ^ m)
    (h : ∀ (t b : Int) (r : Addr) (H' : Hp), IsLF l0 l1 h0 h1 t b → Same H H' → H' r = some (.tup [.int t, .int b]) → Q (.ref r) H') : spLF m [.ref p, .ref q] H Q E := ⟨hm, p, q, l0, l1, h0, h1, rfl, e, e', v, b, h⟩
theorem y_parted (d : Drm K H p f s) (d' : Drm K H q g t) (h : ∀ (v : V) (H' : Hp), PartV f s g t v → Same H H' → Q v H') : sp_parted K [.ref p, .ref q] H Q E := ⟨p, q, f, s, g, t, rfl, d, d', h⟩
theorem y_partedU (d : Drm K H p f s) (d' : Drm K H q g t) (ne : f ≠ g) (h : ∀ (H' : Hp), Same H H' → Q (.int (min f g)) H') : sp_parted K [.ref p, .ref q] H Q E := y_parted d d' fun v H' pv sm => by
  rcases pv with ⟨e, _⟩ | ⟨_, rfl⟩ | ⟨e, _⟩
  · exact absurd e ne
  · exact h H' sm
  · exact absurd e ne
theorem y_partedS (d : Drm K H p f s) (d' : Drm K H q f t) (lt : s < t) (h : ∀ (c : Int) (H' : Hp), PartP f s t c → Same H H' → Q (.int (f + c)) H') : sp_parted K [.ref p, .ref q] H Q E := y_parted d d' fun v H' pv sm => by
  rcases pv with ⟨_, e, _⟩ | ⟨e, _⟩ | ⟨_, _, c, pc, rfl⟩
  · omega
  · exact absurd rfl e
  · rw [show min s t = s by omega, show max s t = t by omega] at pc
    exact h c H' pc sm
theorem y_alikeU (d : Drm K H p f s) (d' : Drm K H q g t) (ne : f ≠ g) (n1 : 1 ≤ n) (h : ∀ (H' : Hp), Same H H' → Q (.bl (decide (n ≤ min f g))) H') : sp_alike K [.ref p, .ref q, .int n] H Q E := ⟨p, q, f, s, g, t, n, rfl, d, d', n1, fun v k H' pv e1 e2 sm => by
  rcases pv with ⟨e, _⟩ | ⟨_, rfl⟩ | ⟨e, _⟩
  · exact absurd e ne
  · rw [e1 _ rfl]; exact h H' sm
  · exact absurd e ne⟩
end
end Wm

-- 80097791b2f25b9e92ad1b1775872eecec3643bff7e289a7d90d2644bc8b2e19
/-! Sums of floors; where drums are parted, by counting. -/
namespace Wm
/-! ### sums of floors -/
/-- the sum of (a i + c) / b for i below n -/
def fsum (b a c : Int) : Nat → Int
  | 0 => 0
  | n + 1 => fsum b a c n + (a * n + c) / b
theorem fsum_front (b a c : Int) : ∀ n : Nat, fsum b a c (n + 1) = c / b + fsum b a (c + a) n
  | 0 => by simp [fsum]
  | n + 1 => by
    have h := fsum_front b a c n
    show fsum b a c (n + 1) + (a * ((n + 1 : Nat) : Int) + c) / b = c / b + (fsum b a (c + a) n + (a * (n : Int) + (c + a)) / b)
    rw [h]
    have : a * ((n + 1 : Nat) : Int) + c = a * (n : Int) + (c + a) := by push_cast; grind
    rw [this]
    omega
/-- the same sum, from above -/
def vsum (b a c : Int) : Nat → Int
  | 0 => 0
  | m + 1 => vsum b a c m + (c - b * (m + 1)) / a
theorem fsum_rev {a : Int} (ha : 0 < a) (b c n : Int) : ∀ m : Nat, fsum a b (c + a * n - b * m) m = n * m + vsum b a c m
  | 0 => by simp [fsum, vsum]
  | m + 1 => by
    rw [fsum_front]
    have e : c + a * n - b * ((m + 1 : Nat) : Int) + b = c + a * n - b * m := by push_cast; grind
    rw [e, fsum_rev ha b c n m]
    have e2 : c + a * n - b * ((m + 1 : Nat) : Int) = (c - b * (m + 1)) + a * n := by push_cast; grind
    rw [e2, Int.add_mul_ediv_left _ _ (by omega)]
    show (c - b * (m + 1)) / a + n + (n * m + vsum b a c m) = n * ((m + 1 : Nat) : Int) + (vsum b a c m + (c - b * (m + 1)) / a)
    push_cast
    grind
theorem nmul {a b : Int} (ha : 0 ≤ a) (hb : 0 ≤ b) : 0 ≤ a * b := Int.mul_nonneg ha hb
theorem ediv_bd (x : Int) {b : Int} (hb : 0 < b) : b * (x / b) ≤ x ∧ x < b * (x / b) + b := by
  have h1 := Int.mul_ediv_add_emod x b
  have h2 := Int.emod_nonneg x (show b ≠ 0 by omega)
  have h3 := Int.emod_lt_of_pos x hb
  omega
theorem ediv_is {x b q : Int} (hb : 0 < b) (h1 : b * q ≤ x) (h2 : x < b * q + b) : x / b = q := by
  obtain ⟨g1, g2⟩ := ediv_bd x hb
  have k1 : b * (x / b) < b * (q + 1) := by rw [Int.mul_add]; omega
  have k2 : b * q < b * (x / b + 1) := by rw [Int.mul_add]; omega
  have := Int.lt_of_mul_lt_mul_left k1 (by omega)
  have := Int.lt_of_mul_lt_mul_left k2 (by omega)
  omega
theorem fsum_v {a b c : Int} (ha : 0 < a) (hab : a < b) (c0 : 0 ≤ c) (cb : c < b) : ∀ n : Nat, fsum b a c n = n * ((a * n + c) / b) + vsum b a c ((a * n + c) / b).toNat
  | 0 => by
    have e : (a * ((0 : Nat) : Int) + c) / b = 0 := by
      have : a * ((0 : Nat) : Int) + c = c := by simp
      rw [this]; exact Int.ediv_eq_zero_of_lt c0 cb
    rw [e]
    simp [fsum, vsum]
  | n + 1 => by
    have h := fsum_v ha hab c0 cb n
    show fsum b a c n + (a * n + c) / b = _
    rw [h]
    have an : 0 ≤ a * (n : Int) := nmul (by omega) (by omega)
    have e1 : a * ((n + 1 : Nat) : Int) = a * n + a := by push_cast; grind
    rw [e1]
    have m0 : 0 ≤ (a * n + c) / b := Int.ediv_nonneg (by omega) (by omega)
    obtain ⟨g1, g2⟩ := ediv_bd (a * n + c) (show 0 < b by omega)
    obtain ⟨k1, k2⟩ := ediv_bd (a * n + a + c) (show 0 < b by omega)
    generalize hm : (a * n + c) / b = m at *
    by_cases e : (a * n + a + c) / b = m
    · rw [e]
      push_cast
      grind
    · have e2 : (a * n + a + c) / b = m + 1 := by
        refine ediv_is (by omega) ?_ ?_
        · rw [Int.mul_add]
          apply Classical.byContradiction
          intro q
          exact e (ediv_is (by omega) (by omega) (by omega))
        · rw [Int.mul_add]; omega
      rw [e2]
      rw [e2] at k1 k2
      have t : (m + 1).toNat = m.toNat + 1 := by omega
      rw [t]
      show n * m + vsum b a c m.toNat + m = ((n + 1 : Nat) : Int) * (m + 1) + (vsum b a c m.toNat + (c - b * ((m.toNat : Nat) + 1)) / a)
      have tm : ((m.toNat : Nat) : Int) = m := by omega
      rw [tm]
      have q : (c - b * (m + 1)) / a = -(n : Int) - 1 := by
        refine ediv_is ha ?_ ?_
        · have : a * (-(n : Int) - 1) = -(a * n) - a := by grind
          omega
        · have : a * (-(n : Int) - 1) = -(a * n) - a := by grind
          have : b * (m + 1) = b * m + b := by grind
          omega
      rw [q]
      push_cast
      grind
/-- the two sums of one turn of Euclid's -/
theorem fsum_swap {a b c : Int} (ha : 0 ≤ a) (hab : a < b) (c0 : 0 ≤ c) (cb : c < b) (n : Nat) : fsum b a c n = fsum a b ((a * n + c) % b) ((a * n + c) / b).toNat ∧ 0 ≤ (a * n + c) / b ∧ (a * n + c) / b ≤ n ∧ (a = 0 → (a * n + c) / b = 0) := by
  have an : 0 ≤ a * (n : Int) := nmul ha (by omega)
  have m0 : 0 ≤ (a * n + c) / b := Int.ediv_nonneg (by omega) (by omega)
  have m1 : (a * n + c) / b ≤ n := by
    have : (a * n + c) / b < n + 1 := by
      apply Int.ediv_lt_of_lt_mul (by omega)
      have h1 : a * (n : Int) ≤ (b - 1) * n := Int.mul_le_mul_of_nonneg_right (by omega) (by omega)
      have h2 : (b - 1) * (n : Int) = b * n - n := by grind
      have h3 : ((n : Int) + 1) * b = b * n + b := by grind
      omega
    omega
  refine ⟨?_, m0, m1, fun e => ?_⟩
  · by_cases e : a = 0
    · subst e
      have : ∀ k : Nat, fsum b 0 c k = 0 := by
        intro k
        induction k with
        | zero => rfl
        | succ k ih =>
          show fsum b 0 c k + (0 * (k : Int) + c) / b = 0
          rw [ih]
          have : (0 * (k : Int) + c) / b = 0 := by
            have : 0 * (k : Int) + c = c := by simp
            rw [this]; exact Int.ediv_eq_zero_of_lt c0 cb
          omega
      rw [this]
      have : (0 * (n : Int) + c) / b = 0 := by
        have : 0 * (n : Int) + c = c := by simp
        rw [this]; exact Int.ediv_eq_zero_of_lt c0 cb
      rw [this]; rfl
    · have h := fsum_v (show 0 < a by omega) hab c0 cb n
      have r := fsum_rev (show 0 < a by omega) b c n ((a * n + c) / b).toNat
      have tm : ((((a * n + c) / b).toNat : Nat) : Int) = (a * n + c) / b := by omega
      rw [tm] at r
      have e3 : c + a * n - b * ((a * n + c) / b) = (a * n + c) % b := by
        have := Int.mul_ediv_add_emod (a * n + c) b
        omega
      rw [e3] at r
      rw [h, r]
  · subst e
    have : 0 * (n : Int) + c = c := by simp
    rw [this]; exact Int.ediv_eq_zero_of_lt c0 cb
theorem tri_step (n : Int) : (n + 1) * (n + 1 - 1) / 2 = n * (n - 1) / 2 + n := by
  have : (n + 1) * (n + 1 - 1) = n * (n - 1) + n * 2 := by grind
  rw [this, Int.add_mul_ediv_right _ _ (by decide)]
theorem fsum_rest {b : Int} (hb : 0 < b) (a c : Int) : ∀ n : Nat, fsum b a c n = (n : Int) * (n - 1) / 2 * (a / b) + n * (c / b) + fsum b (a % b) (c % b) n
  | 0 => by simp [fsum]
  | n + 1 => by
    have h := fsum_rest hb a c n
    show fsum b a c n + (a * n + c) / b = ((n + 1 : Nat) : Int) * (((n + 1 : Nat) : Int) - 1) / 2 * (a / b) + ((n + 1 : Nat) : Int) * (c / b) + (fsum b (a % b) (c % b) n + (a % b * n + c % b) / b)
    rw [h]
    have t := tri_step (n : Int)
    have e0 : ((n + 1 : Nat) : Int) = (n : Int) + 1 := by push_cast; rfl
    rw [e0, t]
    have e1 : a * n + c = (a % b * n + c % b) + b * (a / b * n + c / b) := by
      have h1 := Int.mul_ediv_add_emod a b
      have h2 := Int.mul_ediv_add_emod c b
      have h3 : a * (n : Int) = (b * (a / b) + a % b) * n := by rw [h1]
      rw [h3]
      generalize a / b = x at *
      generalize a % b = y at *
      generalize c / b = z at *
      generalize c % b = w at *
      subst h2
      grind
    rw [e1, Int.add_mul_ediv_left _ _ (by omega)]
    grind
/-- sums of what is no less, term by term -/
theorem fsum_le {b b' a c a' c' : Int} : ∀ {n : Nat}, (∀ i : Nat, i < n → (a * i + c) / b ≤ (a' * i + c') / b') → fsum b a c n ≤ fsum b' a' c' n
  | 0, _ => Int.le_refl _
  | n + 1, h => by
    have := fsum_le (n := n) fun i hi => h i (by omega)
    have := h n (by omega)
    show fsum b a c n + _ ≤ fsum b' a' c' n + _
    omega
theorem fsum_lt {b b' a c a' c' : Int} : ∀ {n : Nat}, (∀ i : Nat, i < n → (a * i + c) / b ≤ (a' * i + c') / b') → (fsum b a c n < fsum b' a' c' n ↔ ∃ i : Nat, i < n ∧ (a * i + c) / b < (a' * i + c') / b')
  | 0, _ => by simp [fsum]
  | n + 1, h => by
    have ih := fsum_lt (n := n) fun i hi => h i (by omega)
    have le := fsum_le (n := n) fun i hi => h i (by omega)
    have hn := h n (by omega)
    have e : fsum b a c (n + 1) < fsum b' a' c' (n + 1) ↔ fsum b a c n + (a * n + c) / b < fsum b' a' c' n + (a' * n + c') / b' := Iff.rfl
    rw [e]
    constructor
    · intro q
      by_cases z : (a * n + c) / b < (a' * n + c') / b'
      · exact ⟨n, by omega, z⟩
      · obtain ⟨i, hi, hh⟩ := ih.mp (by omega)
        exact ⟨i, by omega, hh⟩
    · rintro ⟨i, hi, hh⟩
      by_cases z : i = n
      · subst z; omega
      · have := ih.mpr ⟨i, by omega, hh⟩
        omega
end Wm
namespace Wm
open PySem PySem.Spec PyProof.Rows L2
/-- some place below m lies otherwise, by its beginning or by its end -/
def bgP (f z w : Int) (i : Int) : Prop := (f * i + 0) / w < (f * i + 0) / z
def enP (f z w : Int) (i : Int) : Prop := (f * i + (f + w - 1)) / w < (f * i + (f + z - 1)) / z
def Gp (f z w m : Int) : Prop := ∃ i : Nat, (i : Int) < m ∧ (bgP f z w i ∨ enP f z w i)
theorem le_div {x b q : Int} (hb : 0 < b) : q ≤ x / b ↔ q * b ≤ x := Int.le_ediv_iff_mul_le hb
theorem div_lt {x b q : Int} (hb : 0 < b) : x / b < q ↔ x < q * b := Int.ediv_lt_iff_lt_mul hb
theorem bg_iff {f lo hi p : Int} (hf : 1 ≤ f) (h0 : 0 ≤ lo) (h : lo < hi) {t b i : Int} (a : IsLA f (f + hi) f (f + lo) t b) (i0 : 0 ≤ i) : (bgP f (f + lo) (f + hi) i → b ≤ i) ∧ bgP f (f + lo) (f + hi) b := by
  unfold bgP
  refine ⟨fun q => ?_, ?_⟩
  · rw [Int.add_zero] at q
    have i1 : 0 < i := by
      apply Classical.byContradiction
      intro z
      have : i = 0 := by omega
      subst this
      simp at q
    have q1 := (div_lt (by omega)).mp q
    have q2 := (le_div (show 0 < f + lo by omega)).mp (Int.le_refl (f * i / (f + lo)))
    exact (a.min _ i i1 q1 q2).1
  · rw [Int.add_zero]
    have q1 := (div_lt (x := f * b) (show 0 < f + hi by omega)).mpr a.lo
    have q2 := (le_div (x := f * b) (show 0 < f + lo by omega)).mpr a.hi
    omega
theorem en_iff {f lo hi p : Int} (hf : 1 ≤ f) (h0 : 0 ≤ lo) (h : lo < hi) {u e i : Int} (a : IsLF f (f + hi) f (f + lo) u e) (i0 : 0 ≤ i) : (enP f (f + lo) (f + hi) i → e ≤ i + 1) ∧ enP f (f + lo) (f + hi) (e - 1) := by
  have ceil : ∀ {m w x : Int}, 0 < w → ((m + (w - 1)) / w ≤ x ↔ m ≤ x * w) := fun {m w x} hw => by
    have := div_lt (x := m + (w - 1)) (q := x + 1) hw
    have e : (x + 1) * w = x * w + w := by grind
    omega
  unfold enP
  refine ⟨fun q => ?_, ?_⟩
  · have e1 : f * i + (f + (f + hi) - 1) = f * (i + 1) + ((f + hi) - 1) := by grind
    have e2 : f * i + (f + (f + lo) - 1) = f * (i + 1) + ((f + lo) - 1) := by grind
    rw [e1, e2] at q
    have q1 := (ceil (m := f * (i + 1)) (show 0 < f + hi by omega)).mp (Int.le_refl ((f * (i + 1) + ((f + hi) - 1)) / (f + hi)))
    have q2 : ¬ f * (i + 1) ≤ (f * (i + 1) + ((f + hi) - 1)) / (f + hi) * (f + lo) := fun z => by
      have := (ceil (show 0 < f + lo by omega)).mpr z
      omega
    exact (a.min _ (i + 1) (by omega) q1 (by omega)).1
  · have e1 : f * (e - 1) + (f + (f + hi) - 1) = f * e + ((f + hi) - 1) := by grind
    have e2 : f * (e - 1) + (f + (f + lo) - 1) = f * e + ((f + lo) - 1) := by grind
    rw [e1, e2]
    have q1 := (ceil (m := f * e) (x := u) (show 0 < f + hi by omega)).mpr a.lo
    have q2 : ¬ (f * e + ((f + lo) - 1)) / (f + lo) ≤ u := fun z => by
      have := (ceil (show 0 < f + lo by omega)).mp z
      have := a.hi
      omega
    omega
theorem gp_iff {f lo hi p m : Int} (hf : 1 ≤ f) (h0 : 0 ≤ lo) (h : lo < hi) (a : PartP f lo hi p) : Gp f (f + lo) (f + hi) m ↔ p < m := by
  obtain ⟨t, b, u, e, a1, a2, rfl⟩ := a
  have bp := a1.pos
  have ep := a2.pos
  constructor
  · rintro ⟨i, hi', q | q⟩
    · have := (bg_iff (p := 0) hf h0 h a1 (show (0 : Int) ≤ i by omega)).1 q
      omega
    · have := (en_iff (p := 0) hf h0 h a2 (show (0 : Int) ≤ i by omega)).1 q
      omega
  · intro q
    by_cases z : b ≤ e - 1
    · refine ⟨b.toNat, by omega, .inl ?_⟩
      rw [show ((b.toNat : Nat) : Int) = b by omega]
      exact (bg_iff (p := 0) hf h0 h a1 (show (0 : Int) ≤ b by omega)).2
    · refine ⟨(e - 1).toNat, by omega, .inr ?_⟩
      rw [show (((e - 1).toNat : Nat) : Int) = e - 1 by omega]
      exact (en_iff (p := 0) hf h0 h a2 (show (0 : Int) ≤ e - 1 by omega)).2
/-- at the place itself, and ahead of it -/
theorem gp_at {f lo hi p i : Int} (hf : 1 ≤ f) (h0 : 0 ≤ lo) (h : lo < hi) (a : PartP f lo hi p) (i0 : 0 ≤ i) : (i < p → ¬ bgP f (f + lo) (f + hi) i ∧ ¬ enP f (f + lo) (f + hi) i) ∧ (i = p → bgP f (f + lo) (f + hi) i ∨ enP f (f + lo) (f + hi) i) := by
  have n := fun m => gp_iff (m := m) hf h0 h a
  have ti : ((i.toNat : Nat) : Int) = i := by omega
  refine ⟨fun q => ⟨fun z => ?_, fun z => ?_⟩, fun q => ?_⟩
  · have := (n (i + 1)).mp ⟨i.toNat, by omega, .inl (by rw [ti]; exact z)⟩
    omega
  · have := (n (i + 1)).mp ⟨i.toNat, by omega, .inr (by rw [ti]; exact z)⟩
    omega
  · obtain ⟨j, hj, hh⟩ := (n (p + 1)).mpr (by omega)
    have : ¬ (j : Int) < p := fun z => by
      have := (n p).mp ⟨j, z, hh⟩
      omega
    have e : (j : Int) = i := by omega
    rw [e] at hh
    exact hh
theorem fl_mono {f z w : Int} (hf : 1 ≤ f) (hz : 0 < z) (h : z ≤ w) (i : Nat) : (f * i + 0) / w ≤ (f * i + 0) / z ∧ (f * i + (f + w - 1)) / w ≤ (f * i + (f + z - 1)) / z := by
  have fi : 0 ≤ f * (i : Int) := nmul (by omega) (by omega)
  refine ⟨?_, ?_⟩
  · rw [le_div hz]
    have q := (le_div (show 0 < w by omega)).mp (Int.le_refl ((f * (i : Int) + 0) / w))
    have q0 : 0 ≤ (f * (i : Int) + 0) / w := Int.ediv_nonneg (by omega) (by omega)
    have := Int.mul_le_mul_of_nonneg_left h q0
    omega
  · -- ceilings
    have q0 : 0 ≤ (f * (i : Int) + (f + z - 1)) / z := Int.ediv_nonneg (by omega) (by omega)
    have q := (div_lt (x := f * (i : Int) + (f + z - 1)) (q := (f * (i : Int) + (f + z - 1)) / z + 1) hz).mp (by omega)
    have e : ((f * (i : Int) + (f + z - 1)) / z + 1) * z = (f * (i : Int) + (f + z - 1)) / z * z + z := by grind
    have := Int.mul_le_mul_of_nonneg_left h q0
    have q2 := (div_lt (x := f * (i : Int) + (f + w - 1)) (q := (f * (i : Int) + (f + z - 1)) / z + 1) (show 0 < w by omega)).mpr (by
      have e2 : ((f * (i : Int) + (f + z - 1)) / z + 1) * w = (f * (i : Int) + (f + z - 1)) / z * w + w := by grind
      omega)
    omega
theorem gp_sums {f z w : Int} (hf : 1 ≤ f) (hz : 0 < z) (h : z ≤ w) (m : Nat) : Gp f z w m ↔ (fsum w f 0 m < fsum z f 0 m ∨ fsum w f (f + w - 1) m < fsum z f (f + z - 1) m) := by
  have a := fsum_lt (n := m) fun i _ => (fl_mono hf hz h i).1
  have c := fsum_lt (n := m) fun i _ => (fl_mono hf hz h i).2
  rw [a, c]
  unfold Gp bgP enP
  constructor
  · rintro ⟨i, hi, q | q⟩
    · exact .inl ⟨i, by omega, q⟩
    · exact .inr ⟨i, by omega, q⟩
  · rintro (⟨i, hi, q⟩ | ⟨i, hi, q⟩)
    · exact ⟨i, by omega, .inl q⟩
    · exact ⟨i, by omega, .inr q⟩
/-! ### promises -/
def sp__law_floors : Sp := fun vs H Q _ => ∃ n b a c : Int, vs = [.int n, .int b, .int a, .int c] ∧ 0 ≤ n ∧ n < 2 ^ 60 ∧ 1 ≤ b ∧ b < 2 ^ 60 ∧ 0 ≤ a ∧ a < 2 ^ 60 ∧ 0 ≤ c ∧ c < 2 ^ 60 ∧ Q (.int (fsum b a c n.toNat)) H
def sp__law_some : Sp := fun vs H Q _ => ∃ f s t n : Int, vs = [.int f, .int s, .int t, .int n] ∧ 1 ≤ f ∧ f < 2 ^ 57 ∧ 0 ≤ s ∧ s < t ∧ t < 2 ^ 57 ∧ 0 ≤ n ∧ n < 2 ^ 60 ∧ ∀ k : Bool, (k = true ↔ Gp f (f + s) (f + t) n) → Q (.bl k) H
section
variable {K : PySem.W.Frag} {H : Hp} {Q : VK} {E : XK} {f s t n a b c : Int}
theorem y_floors (n0 : 0 ≤ n) (n1 : n < 2 ^ 60) (b0 : 1 ≤ b) (b1 : b < 2 ^ 60) (a0 : 0 ≤ a) (a1 : a < 2 ^ 60) (c0 : 0 ≤ c) (c1 : c < 2 ^ 60) (k : Q (.int (fsum b a c n.toNat)) H) : sp__law_floors [.int n, .int b, .int a, .int c] H Q E := ⟨n, b, a, c, rfl, n0, n1, b0, b1, a0, a1, c0, c1, k⟩
theorem y_some (f1 : 1 ≤ f) (f2 : f < 2 ^ 57) (s0 : 0 ≤ s) (s1 : s < t) (t1 : t < 2 ^ 57) (n0 : 0 ≤ n) (n1 : n < 2 ^ 60) (k : ∀ k : Bool, (k = true ↔ Gp f (f + s) (f + t) n) → Q (.bl k) H) : sp__law_some [.int f, .int s, .int t, .int n] H Q E := ⟨f, s, t, n, rfl, f1, f2, s0, s1, t1, n0, n1, k⟩
end
section
variable {K : PySem.W.Frag} {σ : L2.St} {H : Hp} {Q : VK} {E : XK} {D : Ends} {p q : Addr} {f s t n : Int}
theorem x_iteK {A B : Prop} {k : Bool} (h1 : k = true → A) (h2 : k = false → B) : if k = true then A else B := by
  cases k
  · exact h2 rfl
  · exact h1 rfl
theorem x_notBl {a b : Bool} (h : Q (.bl (!decide (a = b))) H) : rNotB (.bl a) (.bl b) H Q := ⟨a, b, rfl, rfl, h⟩
theorem y_partedR (d : Drm K H p f t) (d' : Drm K H q f s) (lt : s < t) (h : ∀ (c : Int) (H' : Hp), PartP f s t c → Same H H' → Q (.int (f + c)) H') : sp_parted K [.ref p, .ref q] H Q E := y_parted d d' fun v H' pv sm => by
  rcases pv with ⟨_, e, _⟩ | ⟨e, _⟩ | ⟨_, _, c, pc, rfl⟩
  · omega
  · exact absurd rfl e
  · rw [show min t s = s by omega, show max t s = t by omega] at pc
    exact h c H' pc sm
theorem y_alikeS (d : Drm K H p f s) (d' : Drm K H q f t) (lt : s < t) (n1 : 1 ≤ n) (h : ∀ (c : Int) (H' : Hp), PartP f s t c → Same H H' → Q (.bl (decide (n ≤ f + c))) H') : sp_alike K [.ref p, .ref q, .int n] H Q E := ⟨p, q, f, s, f, t, n, rfl, d, d', n1, fun v k H' pv e1 e2 sm => by
  rcases pv with ⟨_, e, _⟩ | ⟨e, _⟩ | ⟨_, _, c, pc, rfl⟩
  · omega
  · exact absurd rfl e
  · rw [show min s t = s by omega, show max s t = t by omega] at pc
    rw [e1 _ rfl]; exact h c H' pc sm⟩
end
/-! ### what lies at the place, ahead of it -/
theorem bg_one' (f s : Int) : Bg f s 1 = f := by unfold Bg; simp
theorem bg_two' (f s : Int) : Bg f s 2 = 2 * f + s := by unfold Bg; simp
theorem bg_nul' (f s : Int) : Bg f s 0 = 0 := by unfold Bg; simp
theorem tOf_nul {f s c : Int} (hf : 1 ≤ f) (hs : 0 ≤ s) (c0 : 0 ≤ c) (c1 : c < f) : tOf f s c = 0 :=
  tOf_eq hf hs (by decide) (by rw [bg_nul']; omega) (by rw [bg_nul']; omega) c0
theorem tOf_fst {f s c : Int} (hf : 1 ≤ f) (hs : 0 ≤ s) (c0 : 0 ≤ c) (c1 : c < f + s) : tOf f s (f + c) = 1 :=
  tOf_eq hf hs (by decide) (by rw [bg_one']; omega) (by rw [bg_one']; omega) (by omega)
theorem tOf_snd {f s : Int} (hf : 1 ≤ f) (hs : 0 ≤ s) : tOf f s (f + (f + s)) = 2 :=
  tOf_eq hf hs (by decide) (by rw [bg_two']; omega) (by rw [bg_two']; omega) (by omega)
theorem bn_fst {f s c : Int} (hf : 1 ≤ f) (hs : 0 ≤ s) (c0 : 0 ≤ c) (c1 : c < f + s) : bnL f s (f + c) = (f * c + 0) / (f + s) ∧ bnH f s (f + c) = (f * c + (f + (f + s) - 1)) / (f + s) - 1 := by
  have e : ((c + 1) * f - 1) = (f * c + (f + (f + s) - 1)) + (f + s) * (-1) := by grind
  unfold bnL bnH metL metH plc siz
  rw [tOf_fst hf hs c0 c1, bg_one', show (1 : Int) - 1 = 0 from rfl, bg_nul', show f + c - f = c by omega]
  refine ⟨?_, ?_⟩
  · have : c * (f + 0 * s) = f * c + 0 := by grind
    rw [this]; simp
  · have : (c + 1) * (f + 0 * s) - 1 = (f * c + (f + (f + s) - 1)) + (f + s) * (-1) := by grind
    rw [this, show f + 1 * s = f + s by omega, Int.add_mul_ediv_left _ _ (by omega)]
    omega
theorem bn_snd {f s : Int} (hf : 1 ≤ f) (hs : 0 ≤ s) : bnL f s (f + (f + s)) = f := by
  unfold bnL metL plc siz
  rw [tOf_snd hf hs, bg_two', show (2 : Int) - 1 = 1 from rfl, bg_one', show f + (f + s) - (2 * f + s) = 0 by omega]
  simp
/-- at the parted cell drums lie otherwise, ahead of it alike -/
theorem part_bn {f s t c : Int} (hf : 1 ≤ f) (hs : 0 ≤ s) (h : s < t) (a : PartP f s t c) :
    (¬ (bnL f s (f + c) = bnL f t (f + c) ∧ bnH f s (f + c) = bnH f t (f + c))) ∧ ¬ tOf f s (f + c) = 0 ∧ ¬ tOf f t (f + c) = 0 ∧
    (0 < c → ¬ tOf f s (f + c - 1) = 0 ∧ ¬ tOf f t (f + c - 1) = 0 ∧ bnL f s (f + c - 1) = bnL f t (f + c - 1) ∧ bnH f s (f + c - 1) = bnH f t (f + c - 1)) := by
  obtain ⟨c0, c1⟩ := a.bd hf hs h
  have T2 := tOf_fst hf (show 0 ≤ t by omega) c0 (show c < f + t by omega)
  have B2 := bn_fst hf (show 0 ≤ t by omega) c0 (show c < f + t by omega)
  refine ⟨?_, ?_, by omega, fun cp => ?_⟩
  · by_cases e : c < f + s
    · have B1 := bn_fst hf hs c0 e
      rw [B1.1, B1.2, B2.1, B2.2]
      have g := (gp_at hf hs h a c0).2 rfl
      unfold bgP enP at g
      omega
    · have e' : c = f + s := by omega
      rw [B2.1]
      subst e'
      rw [bn_snd hf hs]
      rintro ⟨q, _⟩
      have : (f * (f + s) + 0) / (f + t) < f := by
        apply Int.ediv_lt_of_lt_mul (by omega)
        have := Int.mul_lt_mul_of_pos_left (show f + s < f + t by omega) (show 0 < f by omega)
        omega
      omega
  · by_cases e : c < f + s
    · have := tOf_fst hf hs c0 e
      omega
    · have e' : c = f + s := by omega
      subst e'
      have := tOf_snd hf hs
      omega
  · have e : f + c - 1 = f + (c - 1) := by omega
    rw [e]
    have B1 := bn_fst hf hs (show 0 ≤ c - 1 by omega) (show c - 1 < f + s by omega)
    have B3 := bn_fst hf (show 0 ≤ t by omega) (show 0 ≤ c - 1 by omega) (show c - 1 < f + t by omega)
    have T1 := tOf_fst hf hs (show 0 ≤ c - 1 by omega) (show c - 1 < f + s by omega)
    have T3 := tOf_fst hf (show 0 ≤ t by omega) (show 0 ≤ c - 1 by omega) (show c - 1 < f + t by omega)
    obtain ⟨g1, g2⟩ := (gp_at hf hs h a (show 0 ≤ c - 1 by omega)).1 (by omega)
    have m := fl_mono hf (show 0 < f + s by omega) (show f + s ≤ f + t by omega) (c - 1).toNat
    rw [show (((c - 1).toNat : Nat) : Int) = c - 1 by omega] at m
    unfold bgP at g1
    unfold enP at g2
    rw [B1.1, B1.2, B3.1, B3.2]
    omega
end Wm

-- fff6b75cefdb8b806cc3f4f17665ebd761f3763c1660adda1ac4e495acec6ebc
/-! Every cell laid by itself: on what it lies, as data. -/
namespace Wm
open PySem PySem.Spec PyProof.Rows L2
/-! ### a for over enumerate(list) -/
def enK (K : PySem.W.Frag) (g : TG) (tb : TS) (D : Ends) (σ : L2.St) (vs : List V) (H : Hp) : Prop := ∃ a xs, vs = [.ref a] ∧ SqL K H a xs ∧ ∃ W : Nat → Nat → L2.St → Hp → Prop, (∃ m, W 0 m σ H) ∧ ∀ i m σ H, W i m σ H →
      ((Ite K a).stop i H ∧ D.nx σ H) ∨ ((Ite K a).go i H ∧ ∃ N : L2.St → Hp → Prop, (∀ σ' H', N σ' H' → ∃ m', m' < m ∧ W (i + 1) m' σ' H') ∧ ∀ x H', (Ite K a).yld i H x H' → g x σ H' fun σ2 H2 => tb { D with nx := N, ct := N, bk := D.nx } σ2 H2)
section
variable {K : PySem.W.Frag} {σ : L2.St} {H : Hp} {Q : VK} {D : Ends} {p : Addr} {xs : List V} {g : TG} {tb : TS} {ta : TA}
theorem x_forEn (h : ta σ H fun vs H1 => enK K g tb D σ vs H1) : tFor (iEnum K ta) g tb D σ H := h
theorem x_forE (e : H p = some (.lst xs)) (I : Nat → L2.St → Hp → Prop) (h0 : I 0 σ H) (hl : ∀ i σ H, I i σ H → H p = some (.lst xs))
    (hs : ∀ i x σ H T, i < xs.length → xs[i]? = some x → I i σ H → H T = none → g (.ref T) σ (upd H T (.tup [.int (i : Nat), x])) fun σ2 H2 => tb { D with nx := I (i + 1), ct := I (i + 1), bk := D.nx } σ2 H2)
    (hd : ∀ σ H, I xs.length σ H → D.nx σ H) : enK K g tb D σ [.ref p] H := by
  refine ⟨p, xs, rfl, sql e, fun i m σ H => m = xs.length - i ∧ i ≤ xs.length ∧ I i σ H, ⟨xs.length, by simp, Nat.zero_le _, h0⟩, ?_⟩
  rintro i m σ H ⟨rfl, hi, q⟩
  have el := hl i σ H q
  by_cases hlt : i < xs.length
  · refine .inr ⟨⟨xs, xs[i], sql el, by simp [hlt]⟩, I (i + 1), fun σ' H' z => ⟨xs.length - (i + 1), by omega, rfl, hlt, z⟩, fun x H' y => ?_⟩
    obtain ⟨T, x', rfl, hT, rfl, hx⟩ := y
    exact hs i x' σ H T hlt (hx xs (sql el)) q hT
  · have e2 : i = xs.length := by omega
    subst e2
    exact .inl ⟨⟨xs, sql el, Nat.le_refl _⟩, hd σ H q⟩
theorem x_orT {tb' : TE} {ta' : TE} (h : ta' σ H fun x H1 => ∃ k, TruV K x H1 k ∧ if k = true then Q x H1 else tb' σ H1 Q) : tOrT K ta' tb' σ H Q := h
end
/-! ### whole numbers from a to b -/
def rngI (a b : Int) : List Int := (List.range (b - a + 1).toNat).map fun k => a + (k : Nat)
theorem rngI_mem {a b x : Int} : x ∈ rngI a b ↔ a ≤ x ∧ x ≤ b := by
  unfold rngI
  simp only [List.mem_map, List.mem_range]
  constructor
  · rintro ⟨k, hk, rfl⟩; omega
  · rintro ⟨h1, h2⟩; exact ⟨(x - a).toNat, by omega, by omega⟩
theorem rngI_nil {a b : Int} (h : b < a) : rngI a b = [] := by
  unfold rngI
  rw [show (b - a + 1).toNat = 0 by omega]; rfl
theorem rngI_snoc {a b : Int} (h : a ≤ b + 1) : rngI a (b + 1) = rngI a b ++ [b + 1] := by
  unfold rngI
  rw [show (b + 1 - a + 1).toNat = (b - a + 1).toNat + 1 by omega, List.range_succ, List.map_append]
  congr 1
  simp
  omega
theorem rngI_inj {a b c d : Int} (h : a ≤ b) (h' : c ≤ d) (e : rngI a b = rngI c d) : a = c ∧ b = d := by
  have m : ∀ x, (a ≤ x ∧ x ≤ b) ↔ (c ≤ x ∧ x ≤ d) := fun x => by rw [← rngI_mem, ← rngI_mem, e]
  have := (m a).mp ⟨Int.le_refl _, h⟩
  have := (m b).mp ⟨h, Int.le_refl _⟩
  have := (m c).mpr ⟨Int.le_refl _, h'⟩
  have := (m d).mpr ⟨h', Int.le_refl _⟩
  omega
theorem rngI_len {a b : Int} {n : Nat} (h : b - a < n) : (rngI a b).length ≤ n := by
  unfold rngI; simp; omega
/-! ### data -/
def unD (f s j : Int) : PyData := if tOf f s j = 0 then .int j else .list ((rngI (bnL f s j) (bnH f s j)).map PyData.int)
theorem eqv_il {ns ms : List Int} : PyData.eqv (.list (ns.map PyData.int)) (.list (ms.map PyData.int)) = decide (ns = ms) := by
  rw [PyData.eqv, eqvAll_ints]
theorem eqv_un (f s g t j k : Int) : PyData.eqv (unD f s j) (unD g t k) = true ↔ unD f s j = unD g t k := by
  unfold unD
  by_cases a : tOf f s j = 0
  · by_cases b : tOf g t k = 0
    · rw [if_pos a, if_pos b, PyData.eqv]; simp
    · rw [if_pos a, if_neg b, PyData.eqv]
      · simp
      all_goals (intros; simp_all)
  · by_cases b : tOf g t k = 0
    · rw [if_neg a, if_pos b, PyData.eqv]
      · simp
      all_goals (intros; simp_all)
    · rw [if_neg a, if_neg b, eqv_il]
      simp only [decide_eq_true_eq, PyData.list.injEq]
      constructor
      · intro h; rw [h]
      · intro h
        exact List.map_inj_right (fun x y h => by simpa using h) |>.mp h
theorem lay_ints (ns : List Int) : PyData.canLayAll0 (ns.map PyData.int) = true := by
  induction ns with
  | nil => rfl
  | cons n r ih => simp [PyData.canLayAll0, PyData.canLay0]; exact ih
theorem dep_ints (ns : List Int) : PyData.depthAll (ns.map PyData.int) = 0 := by
  induction ns with
  | nil => rfl
  | cons n r ih => simp [PyData.depthAll, PyData.depth]; exact ih
theorem lay_un (f s j : Int) : PyData.canLay0 (unD f s j) = true ∧ (unD f s j).depth ≤ 1 := by
  unfold unD
  by_cases a : tOf f s j = 0
  · rw [if_pos a]; exact ⟨by simp [PyData.canLay0], by simp [PyData.depth]⟩
  · rw [if_neg a]
    refine ⟨?_, ?_⟩
    · unfold PyData.canLay0; exact lay_ints _
    · unfold PyData.depth; rw [dep_ints]; exact Nat.le_refl _
/-- what is told of the cells below m -/
def unL (f s : Int) (m : Nat) : List PyData := (List.range m).map fun k => unD f s (k : Nat)
theorem sh_un (f s : Int) (m : Nat) : SeqAt.shaped (.list (unL f s m)) = true := by
  have h1 : PyData.canLayAll0 (unL f s m) = true := by
    unfold unL
    induction m with
    | zero => rfl
    | succ m ih =>
      rw [List.range_succ, List.map_append]
      have app : ∀ a b : List PyData, PyData.canLayAll0 a = true → PyData.canLayAll0 b = true → PyData.canLayAll0 (a ++ b) = true := by
        intro a b
        induction a with
        | nil => intro _ h; exact h
        | cons x r ih2 =>
          intro h1 h2
          simp [PyData.canLayAll0] at h1 ⊢
          exact ⟨h1.1, ih2 h1.2 h2⟩
      refine app _ _ ih ?_
      simp [PyData.canLayAll0, (lay_un f s (m : Nat)).1]
  have h2 : PyData.depthAll (unL f s m) ≤ 1 := by
    have all : ∀ l : List PyData, (∀ d ∈ l, d.depth ≤ 1) → PyData.depthAll l ≤ 1 := by
      intro l
      induction l with
      | nil => intro _; simp [PyData.depthAll]
      | cons x r ih =>
        intro h
        have a := h x (by simp)
        have b := ih fun d hd => h d (by simp [hd])
        simp [PyData.depthAll]
        omega
    refine all _ fun d hd => ?_
    unfold unL at hd
    obtain ⟨k, _, rfl⟩ := List.mem_map.mp hd
    exact (lay_un f s (k : Nat)).2
  unfold SeqAt.shaped
  have h3 : PyData.canLay0 (.list (unL f s m)) = true := by unfold PyData.canLay0; exact h1
  have h4 : (PyData.list (unL f s m)).depth ≤ 64 := by unfold PyData.depth; omega
  rw [h3, decide_eq_true h4]; rfl
theorem eqv_unL (f s g t : Int) : ∀ m : Nat, PyData.eqv (.list (unL f s m)) (.list (unL g t m)) = true ↔ ∀ k : Nat, k < m → unD f s k = unD g t k := by
  intro m
  rw [PyData.eqv]
  have app : ∀ a b c d : List PyData, a.length = c.length → PyData.eqvAll (a ++ b) (c ++ d) = (PyData.eqvAll a c && PyData.eqvAll b d) := by
    intro a
    induction a with
    | nil => intro b c d h; cases c with
      | nil => simp [PyData.eqvAll]
      | cons _ _ => simp at h
    | cons x r ih =>
      intro b c d h
      cases c with
      | nil => simp at h
      | cons y q =>
        simp only [List.cons_append, PyData.eqvAll]
        rw [ih b q d (by simpa using h), Bool.and_assoc]
  unfold unL
  induction m with
  | zero => simp [PyData.eqvAll]
  | succ m ih =>
    rw [List.range_succ, List.map_append, List.map_append, app _ _ _ _ (by simp), Bool.and_eq_true]
    simp only [List.map_cons, List.map_nil, PyData.eqvAll, Bool.and_true, eqv_un]
    constructor
    · rintro ⟨a, b⟩ k hk
      by_cases e : k = m
      · subst e; exact b
      · exact ih.mp a k (by omega)
    · intro a
      exact ⟨ih.mpr fun k hk => a k (by omega), a m (by omega)⟩
/-- cells ahead of the parted one lie alike, that one doesn't -/
theorem un_same {f s t : Int} {j : Int} (hf : 1 ≤ f) (hs : 0 ≤ s) (ht : 0 ≤ t) (j0 : 0 ≤ j) (h : j < f) : unD f s j = unD f t j := by
  unfold unD
  rw [if_pos (tOf_nul hf hs j0 h), if_pos (tOf_nul hf ht j0 h)]
theorem un_nul {f s j : Int} (hf : 1 ≤ f) (hs : 0 ≤ s) (j0 : 0 ≤ j) (h : j < f) : unD f s j = .int j := by
  unfold unD
  rw [if_pos (tOf_nul hf hs j0 h)]
theorem un_at {f s t c : Int} (hf : 1 ≤ f) (hs : 0 ≤ s) (h : s < t) (a : PartP f s t c) {j : Int} (j0 : 0 ≤ j) : (j < f + c → unD f s j = unD f t j) ∧ unD f s (f + c) ≠ unD f t (f + c) := by
  obtain ⟨c0, c1⟩ := a.bd hf hs h
  obtain ⟨p1, p2, p3, _⟩ := part_bn hf hs h a
  refine ⟨fun q => ?_, ?_⟩
  · by_cases z : j < f
    · exact un_same hf hs (by omega) j0 z
    · obtain ⟨i, rfl⟩ : ∃ i, j = f + i := ⟨j - f, by omega⟩
      have B1 := bn_fst hf hs (show 0 ≤ i by omega) (show i < f + s by omega)
      have B3 := bn_fst hf (show 0 ≤ t by omega) (show 0 ≤ i by omega) (show i < f + t by omega)
      have T1 := tOf_fst hf hs (show 0 ≤ i by omega) (show i < f + s by omega)
      have T3 := tOf_fst hf (show 0 ≤ t by omega) (show 0 ≤ i by omega) (show i < f + t by omega)
      obtain ⟨g1, g2⟩ := (gp_at hf hs h a (show 0 ≤ i by omega)).1 (by omega)
      have m := fl_mono hf (show 0 < f + s by omega) (show f + s ≤ f + t by omega) i.toNat
      rw [show ((i.toNat : Nat) : Int) = i by omega] at m
      unfold bgP at g1
      unfold enP at g2
      unfold unD
      rw [if_neg (by omega), if_neg (by omega)]
      have e1 : bnL f s (f + i) = bnL f t (f + i) := by rw [B1.1, B3.1]; omega
      have e2 : bnH f s (f + i) = bnH f t (f + i) := by rw [B1.2, B3.2]; omega
      rw [e1, e2]
  · unfold unD
    rw [if_neg p2, if_neg p3]
    intro e
    have e' : rngI (bnL f s (f + c)) (bnH f s (f + c)) = rngI (bnL f t (f + c)) (bnH f t (f + c)) := by
      simp only [PyData.list.injEq] at e
      exact List.map_inj_right (fun x y h => by simpa using h) |>.mp e
    exact p1 (rngI_inj (ab_bnH hf hs (by omega) p2).1 (ab_bnH hf (by omega) (by omega) p3).1 e')
theorem un_firsts {f s g t : Int} (hf : 1 ≤ f) (hs : 0 ≤ s) (hg : 1 ≤ g) (ht : 0 ≤ t) (ne : f ≠ g) {j : Int} (j0 : 0 ≤ j) : (j < min f g → unD f s j = unD g t j) ∧ unD f s (min f g) ≠ unD g t (min f g) := by
  have nul : ∀ {a b : Int}, 1 ≤ a → 0 ≤ b → ¬ tOf a b a = 0 := fun {a b} ha hb => by
    have := tOf_fst (c := 0) ha hb (by decide) (by omega)
    rw [Int.add_zero] at this
    omega
  refine ⟨fun q => by rw [un_nul hf hs j0 (by omega), un_nul hg ht j0 (by omega)], ?_⟩
  by_cases z : f < g
  · rw [show min f g = f by omega, un_nul (f := g) hg ht (by omega) z]
    unfold unD
    rw [if_neg (nul hf hs)]
    intro e; cases e
  · rw [show min f g = g by omega, un_nul (f := f) hf hs (by omega) (by omega)]
    unfold unD
    rw [if_neg (nul hg ht)]
    intro e; cases e
/-- by what is told of where they are parted -/
def cellV : V → Option Int
  | .int c => some c
  | _ => none
theorem un_part {f s g t : Int} {v : V} (hf : 1 ≤ f) (hs : 0 ≤ s) (hg : 1 ≤ g) (ht : 0 ≤ t) (a : PartV f s g t v) : (v = .non ∧ f = g ∧ s = t ∧ ∀ j, unD f s j = unD g t j) ∨
    ∃ c, v = .int c ∧ 1 ≤ c ∧ c ≤ 2 * f + s ∧ c ≤ 2 * f + max s t ∧ (¬ (f = g ∧ s = t)) ∧ (∀ j, 0 ≤ j → j < c → unD f s j = unD g t j) ∧ unD f s c ≠ unD g t c := by
  rcases a with ⟨rfl, rfl, rfl⟩ | ⟨ne, rfl⟩ | ⟨rfl, ne, p, pp, rfl⟩
  · exact .inl ⟨rfl, rfl, rfl, fun _ => rfl⟩
  · exact .inr ⟨_, rfl, by omega, by omega, by omega, fun z => ne z.1, fun j j0 j1 => (un_firsts hf hs hg ht ne j0).1 j1, (un_firsts hf hs hg ht ne (j := 0) (by decide)).2⟩
  · by_cases z : s < t
    · rw [show min s t = s by omega, show max s t = t by omega] at pp
      obtain ⟨c0, c1⟩ := pp.bd hf hs z
      exact .inr ⟨_, rfl, by omega, by omega, by omega, fun q => ne q.2, fun j j0 j1 => (un_at hf hs z pp j0).1 j1, (un_at hf hs z pp (j := 0) (by decide)).2⟩
    · have z' : t < s := by omega
      rw [show min s t = t by omega, show max s t = s by omega] at pp
      obtain ⟨c0, c1⟩ := pp.bd hf ht z'
      exact .inr ⟨_, rfl, by omega, by omega, by omega, fun q => ne q.2, fun j j0 j1 => ((un_at hf ht z' pp j0).1 j1).symm, fun e => (un_at hf ht z' pp (j := 0) (by decide)).2 e.symm⟩
end Wm

/-! The law's own laying: turns, what is under each cell. -/
namespace Wm
open PySem PySem.Spec PyProof.Rows L2
instance (f s g t j k : Int) : Decidable (unD f s j = unD g t k) := decidable_of_iff _ (eqv_un f s g t j k)
theorem cut_to {xs : List V} {m : Int} (h : 0 ≤ m) : cutV xs none (some m) = xs.take m.toNat := by
  unfold cutV
  have e1 : HT.sIx xs.length 0 none = 0 := rfl
  have e2 : HT.sIx xs.length xs.length (some m) = min m.toNat xs.length := by
    unfold HT.sIx
    simp only
    split <;> omega
  rw [e1, e2, List.drop_zero, Nat.sub_zero]
  by_cases z : m.toNat ≤ xs.length
  · rw [show min m.toNat xs.length = m.toNat by omega]
  · rw [show min m.toNat xs.length = xs.length by omega, List.take_length, List.take_of_length_le (by omega)]
theorem dpApp {K : PySem.W.Frag} {H : Hp} : ∀ {a b : List V} {ds es : List PyData}, DpAll K H a ds → DpAll K H b es → DpAll K H (a ++ b) (ds ++ es)
  | _, _, _, _, .nil, h => h
  | _, _, _, _, .cons p q, h => .cons p (dpApp q h)
/-- the turns' begins and sizes, cell by cell -/
def TrA (H : Hp) (f s : Int) (xs : List V) : Prop := ∀ (k : Nat) (x : V), xs[k]? = some x → ∃ r, x = .ref r ∧ H r = some (.tup [.int (Bg f s (tOf f s k)), .int (f + tOf f s k * s)])
theorem TrA.same {H H' : Hp} {f s : Int} {xs : List V} (h : TrA H f s xs) (e : Same H H') : TrA H' f s xs := fun k x hx => by
  obtain ⟨r, rfl, e1⟩ := h k x hx
  exact ⟨r, rfl, e _ _ e1⟩
theorem TrA.app {H : Hp} {f s t : Int} {xs : List V} {r : Addr} {n : Nat} (hf : 1 ≤ f) (hs : 0 ≤ s) (ht : 0 ≤ t) (h : TrA H f s xs) (hl : (xs.length : Int) = Bg f s t) (hn : (n : Int) = f + t * s) (e : H r = some (.tup [.int (Bg f s t), .int (f + t * s)])) : TrA H f s (xs ++ List.replicate n (.ref r)) := fun k x hx => by
  by_cases z : k < xs.length
  · rw [List.getElem?_append_left z] at hx
    exact h k x hx
  · rw [List.getElem?_append_right (by omega)] at hx
    have hk : k - xs.length < n := by
      apply Classical.byContradiction
      intro q
      rw [List.getElem?_eq_none (by simp; omega)] at hx
      cases hx
    rw [List.getElem?_replicate, if_pos hk] at hx
    cases hx
    have e1 : tOf f s k = t := tOf_eq hf hs ht (by omega) (by omega) (by omega)
    rw [e1]
    exact ⟨r, rfl, e⟩
theorem TrA.take {H : Hp} {f s : Int} {xs : List V} (h : TrA H f s xs) (m : Nat) : TrA H f s (xs.take m) := fun k x hx => by
  rw [List.getElem?_take] at hx
  split at hx
  · exact h k x hx
  · cases hx
/-- on what a cell lies, as it stands in the told list at F -/
def UV (H : Hp) (f s : Int) (F : Addr) (k : Nat) (x : V) : Prop := (tOf f s k = 0 ∧ x = .int k) ∨ (¬ tOf f s k = 0 ∧ ∃ r, x = .ref r ∧ r ≠ F ∧ H r = some (.lst ((rngI (bnL f s k) (bnH f s k)).map V.int)))
def UnA (H : Hp) (f s : Int) (F : Addr) (xs : List V) : Prop := ∀ (k : Nat) (x : V), xs[k]? = some x → UV H f s F k x
theorem UnA.same {H H' : Hp} {f s : Int} {F : Addr} {xs : List V} (h : UnA H f s F xs) (e : Same H H') : UnA H' f s F xs := fun k x hx => by
  rcases h k x hx with a | ⟨a, r, rfl, nr, e1⟩
  · exact .inl a
  · exact .inr ⟨a, r, rfl, nr, e _ _ e1⟩
theorem UnA.app {H : Hp} {f s : Int} {F : Addr} {xs : List V} {y : V} {o : HO} (h : UnA H f s F xs) (u : UV H f s F xs.length y) : UnA (upd H F o) f s F (xs ++ [y]) := fun k x hx => by
  have go : ∀ {k : Nat} {x : V}, UV H f s F k x → UV (upd H F o) f s F k x := fun {k x} v => by
    rcases v with a | ⟨a, r, rfl, nr, e1⟩
    · exact .inl a
    · exact .inr ⟨a, r, rfl, nr, by rw [upd_ne nr]; exact e1⟩
  by_cases z : k < xs.length
  · rw [List.getElem?_append_left z] at hx
    exact go (h k x hx)
  · rw [List.getElem?_append_right (by omega)] at hx
    have e : k = xs.length := by
      apply Classical.byContradiction
      intro q
      rw [List.getElem?_eq_none (by simp; omega)] at hx
      cases hx
    subst e
    simp at hx
    subst hx
    exact go u
theorem UnA.but {H H' : Hp} {f s : Int} {F q : Addr} {xs : List V} (h : UnA H f s F xs) (n : ∀ r, V.ref r ∈ xs → r ≠ q) (b : But q H H') : UnA H' f s F xs := fun k x hx => by
  rcases h k x hx with a | ⟨a, r, rfl, nr, e1⟩
  · exact .inl a
  · exact .inr ⟨a, r, rfl, nr, b _ _ (n r (List.mem_of_getElem? hx)) e1⟩
theorem dp_ints' {K : PySem.W.Frag} {H : Hp} : ∀ ns : List Int, DpAll K H (ns.map V.int) (ns.map PyData.int)
  | [] => .nil
  | n :: r => .cons (.int n) (dp_ints' r)
theorem UV.dp {K : PySem.W.Frag} {H : Hp} {f s : Int} {F : Addr} {k : Nat} {x : V} (h : UV H f s F k x) : Dp K H x (unD f s k) := by
  unfold unD
  rcases h with ⟨a, rfl⟩ | ⟨a, r, rfl, _, e⟩
  · rw [if_pos a]; exact .int _
  · rw [if_neg a]; exact .lst (sql e) (dp_ints' _)
theorem UnA.dp {K : PySem.W.Frag} {H : Hp} {f s : Int} {F : Addr} {xs : List V} (h : UnA H f s F xs) : ∀ m : Nat, m ≤ xs.length → DpAll K H (xs.take m) (unL f s m)
  | 0, _ => by simpa [unL] using DpAll.nil
  | m + 1, hm => by
    have ih := UnA.dp (K := K) h m (by omega)
    obtain ⟨x, hx⟩ : ∃ x, xs[m]? = some x := ⟨xs[m], by simp [show m < xs.length by omega]⟩
    have e : xs.take (m + 1) = xs.take m ++ [x] := by
      rw [List.take_succ, hx]; rfl
    have e2 : unL f s (m + 1) = unL f s m ++ [unD f s (m : Nat)] := by
      unfold unL
      rw [List.range_succ, List.map_append]; rfl
    rw [e, e2]
    exact dpApp ih (.cons (h m x hx).dp .nil)
/-! ### promises -/
def sp__law_turns : Sp := fun vs H Q _ => ∃ f s m : Int, vs = [.int f, .int s, .int m] ∧ 1 ≤ f ∧ f ≤ 60 ∧ 0 ≤ s ∧ s ≤ 60 ∧ 0 ≤ m ∧ m ≤ 300 ∧ ∀ (p : Addr) (H' : Hp) (xs : List V), Same H H' → H' p = some (.lst xs) → xs.length = m.toNat → TrA H' f s xs → Q (.ref p) H'
def sp__law_under : Sp := fun vs H Q _ => ∃ f s m : Int, vs = [.int f, .int s, .int m] ∧ 1 ≤ f ∧ f ≤ 60 ∧ 0 ≤ s ∧ s ≤ 60 ∧ 0 ≤ m ∧ m ≤ 300 ∧ ∀ (p : Addr) (H' : Hp) (xs : List V), Same H H' → H' p = some (.lst xs) → xs.length = m.toNat → UnA H' f s p xs → (H p = none ∧ ∀ r, V.ref r ∈ xs → H r = none) → Q (.ref p) H'
section
variable {K : PySem.W.Frag} {H : Hp} {Q : VK} {E : XK} {p q l : Addr} {f s m n : Int} {x v w : V} {xs ys : List V}
theorem y_turns (f1 : 1 ≤ f) (f2 : f ≤ 60) (s0 : 0 ≤ s) (s2 : s ≤ 60) (m0 : 0 ≤ m) (m2 : m ≤ 300) (k : ∀ (p : Addr) (H' : Hp) (xs : List V), Same H H' → H' p = some (.lst xs) → xs.length = m.toNat → TrA H' f s xs → Q (.ref p) H') : sp__law_turns [.int f, .int s, .int m] H Q E := ⟨f, s, m, rfl, f1, f2, s0, s2, m0, m2, k⟩
theorem y_under (f1 : 1 ≤ f) (f2 : f ≤ 60) (s0 : 0 ≤ s) (s2 : s ≤ 60) (m0 : 0 ≤ m) (m2 : m ≤ 300) (k : ∀ (p : Addr) (H' : Hp) (xs : List V), Same H H' → H' p = some (.lst xs) → xs.length = m.toNat → UnA H' f s p xs → (H p = none ∧ ∀ r, V.ref r ∈ xs → H r = none) → Q (.ref p) H') : sp__law_under [.int f, .int s, .int m] H Q E := ⟨f, s, m, rfl, f1, f2, s0, s2, m0, m2, k⟩
theorem x_repN (e : H l = some (.lst [x])) (h0 : 0 ≤ n) (h1 : n ≤ 1000) (h : ∀ p, H p = none → Q (.ref p) (upd H p (.lst (List.replicate n.toNat x)))) : rRep (.ref l) (.int n) H Q := by
  refine ⟨l, n, [x], rfl, rfl, e, by omega, by omega, ?_, fun p hp => ?_⟩
  · have : 1000 ≤ sizeLine := by decide
    simp; omega
  · have : (List.replicate n.toNat [x]).flatten = List.replicate n.toNat x := by simp
    rw [this]; exact h p hp
theorem x_neUn {f s g t : Int} {F G : Addr} {k : Nat} (a : UV H f s F k v) (b : UV H g t G k w) (h : Q (.bl (!decide (unD f s k = unD g t k))) H) : rNeD K v w H Q := by
  have sh : ∀ f s : Int, SeqAt.shaped (unD f s k) = true := fun f s => by
    unfold SeqAt.shaped
    obtain ⟨h1, h2⟩ := lay_un f s k
    rw [h1, decide_eq_true (show (unD f s k).depth ≤ 64 by omega)]; rfl
  refine ⟨_, _, a.dp, b.dp, sh f s, sh g t, ?_⟩
  have e : PyData.eqv (unD f s k) (unD g t k) = decide (unD f s k = unD g t k) := by
    rw [Bool.eq_iff_iff, eqv_un, decide_eq_true_iff]
  rw [e]; exact h
theorem x_eqUnL {f s g t : Int} {F G : Addr} {m : Nat} (a : UnA H f s F xs) (b : UnA H g t G ys) (lx : m ≤ xs.length) (ly : m ≤ ys.length) (hp : H p = some (.lst (xs.take m))) (hq : H q = some (.lst (ys.take m))) (h : Q (.bl (decide (∀ k : Nat, k < m → unD f s k = unD g t k))) H) : rEqD K (.ref p) (.ref q) H Q := by
  refine ⟨_, _, .lst (sql hp) (a.dp m lx), .lst (sql hq) (b.dp m ly), sh_un f s m, sh_un g t m, ?_⟩
  have e : PyData.eqv (.list (unL f s m)) (.list (unL g t m)) = decide (∀ k : Nat, k < m → unD f s k = unD g t k) := by
    rw [Bool.eq_iff_iff, eqv_unL, decide_eq_true_iff]
  rw [e]; exact h
end
/-! ### what the law's own test keeps -/
theorem keep_iff {p z l q : Int} (hz : 0 < z) (hl : 0 < l) : (p * l < (q + 1) * z ∧ q * z < (p + 1) * l) ↔ (p * l / z ≤ q ∧ q ≤ ((p + 1) * l - 1) / z) := by
  have a := div_lt (x := p * l) (q := q + 1) hz
  have b := le_div (x := (p + 1) * l - 1) (q := q) hz
  omega
end Wm
namespace Wm
open PySem PySem.Spec PyProof.Rows L2
/-- the first cell that lies otherwise, or none -/
def DueV (f s g t m : Int) (v : V) : Prop := (v = .non ∧ f = g ∧ s = t) ∨ ∃ c : Int, v = .int c ∧ 1 ≤ c ∧ c < m ∧ ¬ (f = g ∧ s = t) ∧ (∀ k : Nat, (k : Int) < c → unD f s k = unD g t k) ∧ unD f s c ≠ unD g t c
theorem un_zero {f s g t : Int} (hf : 1 ≤ f) (hs : 0 ≤ s) (hg : 1 ≤ g) (ht : 0 ≤ t) : unD f s 0 = unD g t 0 := by
  rw [un_nul hf hs (by decide) (by omega), un_nul hg ht (by decide) (by omega)]
theorem un_ex0 {f s t : Int} (hf : 1 ≤ f) (hs : 0 ≤ s) (h : s < t) : unD f s (f + (f + s)) ≠ unD f t (f + (f + s)) := by
  have T1 := tOf_snd hf hs
  have T2 := tOf_fst (c := f + s) hf (show 0 ≤ t by omega) (by omega) (by omega)
  have B1 := bn_snd hf hs
  have B2 := bn_fst (c := f + s) hf (show 0 ≤ t by omega) (by omega) (by omega)
  unfold unD
  rw [if_neg (by omega), if_neg (by omega)]
  intro e
  have e' : rngI (bnL f s (f + (f + s))) (bnH f s (f + (f + s))) = rngI (bnL f t (f + (f + s))) (bnH f t (f + (f + s))) := by
    simp only [PyData.list.injEq] at e
    exact List.map_inj_right (fun x y h => by simpa using h) |>.mp e
  have q := (rngI_inj (ab_bnH hf hs (by omega) (by omega)).1 (ab_bnH hf (by omega) (by omega) (by omega)).1 e').1
  rw [B1, B2.1] at q
  have : (f * (f + s) + 0) / (f + t) < f := by
    apply Int.ediv_lt_of_lt_mul (by omega)
    have := Int.mul_lt_mul_of_pos_left (show f + s < f + t by omega) (show 0 < f by omega)
    omega
  omega
theorem un_ex {f s g t : Int} (hf : 1 ≤ f) (hs : 0 ≤ s) (hg : 1 ≤ g) (ht : 0 ≤ t) (ne : ¬ (f = g ∧ s = t)) : ∃ j : Nat, (j : Int) < 2 * max f g + max s t + 2 ∧ unD f s j ≠ unD g t j := by
  by_cases e : f = g
  · subst e
    by_cases z : s < t
    · refine ⟨(f + (f + s)).toNat, by omega, ?_⟩
      rw [show (((f + (f + s)).toNat : Nat) : Int) = f + (f + s) by omega]
      exact un_ex0 hf hs z
    · refine ⟨(f + (f + t)).toNat, by omega, ?_⟩
      rw [show (((f + (f + t)).toNat : Nat) : Int) = f + (f + t) by omega]
      exact fun e => un_ex0 hf ht (show t < s by omega) e.symm
  · refine ⟨(min f g).toNat, by omega, ?_⟩
    rw [show (((min f g).toNat : Nat) : Int) = min f g by omega]
    exact (un_firsts hf hs hg ht e (j := 0) (by decide)).2
theorem DueV.eq {f s g t m : Int} {v w : V} (hf : 1 ≤ f) (hs : 0 ≤ s) (hg : 1 ≤ g) (ht : 0 ≤ t) (d : DueV f s g t m v) (p : PartV f s g t w) : w = v := by
  rcases un_part hf hs hg ht p with ⟨rfl, e1, e2, _⟩ | ⟨c, rfl, c1, _, _, ne, lo, at'⟩
  · rcases d with ⟨rfl, _⟩ | ⟨c, rfl, _, _, ne, _⟩
    · rfl
    · exact absurd ⟨e1, e2⟩ ne
  · rcases d with ⟨rfl, e⟩ | ⟨c', rfl, c1', _, _, lo', at''⟩
    · exact absurd e ne
    · have h1 : ¬ c < c' := fun z => at' (by have := lo' c.toNat (by omega); rwa [show ((c.toNat : Nat) : Int) = c by omega] at this)
      have h2 : ¬ c' < c := fun z => at'' (lo c' (by omega) z)
      rw [show c = c' by omega]
theorem DueV.sym {f s g t m : Int} {v : V} (d : DueV f s g t m v) : DueV g t f s m v := by
  rcases d with ⟨rfl, e1, e2⟩ | ⟨c, rfl, c1, c2, ne, lo, at'⟩
  · exact .inl ⟨rfl, e1.symm, e2.symm⟩
  · exact .inr ⟨c, rfl, c1, c2, fun z => ne ⟨z.1.symm, z.2.symm⟩, fun k hk => (lo k hk).symm, fun e => at' e.symm⟩
theorem DueV.alike {f s g t m le : Int} {v : V} {k : Bool} (d : DueV f s g t m v) (l0 : 1 ≤ le) (e1 : ∀ c, v = .int c → k = decide (le ≤ c)) (e2 : v = .non → k = true) : k = decide (∀ j : Nat, j < le.toNat → unD f s j = unD g t j) := by
  rcases d with ⟨rfl, rfl, rfl⟩ | ⟨c, rfl, c1, c2, ne, lo, at'⟩
  · rw [e2 rfl]
    exact (decide_eq_true (fun _ _ => rfl)).symm
  · rw [e1 c rfl, decide_eq_decide]
    constructor
    · intro h j hj
      exact lo j (by omega)
    · intro h
      apply Classical.byContradiction
      intro z
      have := h c.toNat (by omega)
      rw [show ((c.toNat : Nat) : Int) = c by omega] at this
      exact at' this
section
variable {K : PySem.W.Frag} {σ : L2.St} {H : Hp} {Q : VK} {f s g t m z : Int} {v : V}
theorem x_neDue (d : DueV f s g t m v) (h : Q (.bl false) H) : rNe v v H Q := by
  rcases d with ⟨rfl, _⟩ | ⟨c, rfl, _⟩
  · exact ⟨rfl, by
      have e : decide (V.non = V.non) = true := by simp
      rw [e]; exact h⟩
  · exact x_rNeI (by
      have e : (!decide (c = c)) = false := by simp
      rw [e]; exact h)
theorem x_orDue (d : DueV f s g t m v) (h : ∀ c, ((v = .non ∧ c = z) ∨ (v = .int c ∧ 1 ≤ c ∧ c < m)) → Q (.int c) H) : ∃ k, TruV K v H k ∧ if k = true then Q v H else tC (.int z) σ H Q := by
  rcases d with ⟨rfl, _⟩ | ⟨c, rfl, c1, c2, _⟩
  · exact ⟨false, rfl, by simp; exact x_c (h z (.inl ⟨rfl, rfl⟩))⟩
  · refine ⟨true, ?_, by simp; exact h c (.inr ⟨rfl, c1, c2⟩)⟩
    show true = (c != 0)
    have : c ≠ 0 := by omega
    simp [this]
theorem x_rNeBb {i j : Bool} (e : i = j) (h : Q (.bl false) H) : rNe (.bl i) (.bl j) H Q := by
  subst e
  exact x_rNeBl (by
    have : (!decide (i = i)) = false := by simp
    rw [this]; exact h)
end
end Wm

/-! list(range(..)) whose ends are great. -/
namespace Wm
open PySem PySem.Spec PyProof.Rows L2
section
variable {P : Program} {w : World} {A : Around} {E : Value → Shared → Prop} {s : Shared}
/-- a new list takes what a long range gives -/
theorem lr_ext {Z : Result → Shared → Prop} {g : Addr} {lo hi : Int} {k1 k2 k3 : Tok} {n : Nat} (free : A.handled = none) (atG : IsRange s.heap g lo hi 1 k1 k2 k3) (big : Builtin.Range.small lo hi 1 = false)
    (size : Builtin.Range.rangeSize lo hi 1 = n) (few : n ≤ 2 ^ 24) (L : Addr) (back : Value) (cap : Nat) (atL : s.heap.get? L = some { cls := .type "list", data := .seq #[] cap })
    (z : ∀ h2 tk its cap2, (∀ b o, b ≠ L → s.heap.get? b = some o → h2.get? b = some o) → h2.get? L = some { cls := .type "list", dict := none, data := .seq its cap2, slots := #[] } →
      ItemsOf (fun i v => ∃ t, v = .int (lo + i * 1) t) its n → Z (.ok (.ret back)) { s with heap := h2, toks := tk }) :
    wpAny (model P w) A.in1 (Builtin.List.listExtendWith (.ref L) (.ref g) back)
      (fun fin s2 => match fin with | .done f => Z (.ok f) s2 | .again c2 => c2.quiet = true ∧ codeAny (model P w) A c2 Z s2) (fun e s2 => Z (.error e) s2) s := by
  have neq : L ≠ g := by
    rintro rfl
    rw [atG] at atL
    simp at atL
  have old : L < s.heap.objs.size := Heap.lt_size atL
  have neI : L ≠ s.heap.objs.size := Nat.ne_of_lt old
  have walk := (Walks.longrange (prog := P) (w := w) (A := A.in1) free s.heap.objs.size lo 1 n).toS
  have turns : ∀ (h : Heap) (cap1 tk : Nat), IsLongIter h s.heap.objs.size (lo + ((0 : Nat) : Int) * 1) ((n : Int) - ((0 : Nat) : Int)) 1 → (∀ b o, b ≠ L → s.heap.get? b = some o → h.get? b = some o) →
      h.get? L = some { cls := .type "list", data := .seq #[] cap1 } → codeAny (model P w) A (.builtin "list.extend.loop" ⟨[.ref L, .ref s.heap.objs.size, back], []⟩) Z { s with heap := h, toks := tk } := by
    intro h cap1 tk itr stay lst
    refine codeAny_extend_loopS walk (by rw [sizeLine_eq]; omega) L (by simpa using neI) back n 0 _ #[] cap1 rfl (Nat.zero_le _) itr lst (ItemsOf.nil _) fun s2 its cap2 mv lst2 got => ?_
    rw [Moved.eq_with mv]
    refine z s2.heap s2.toks its cap2 (fun b o nb e => ?_) lst2 got
    refine mv.heap b o (fun q => ?_) (stay b o nb e)
    have lb := Heap.lt_size e
    simp only [List.mem_cons, List.not_mem_nil, or_false] at q
    rcases q with q | q
    · exact nb q
    · rw [q] at lb
      exact Nat.lt_irrefl _ lb
  unfold Builtin.List.listExtendWith
  refine wpAny_bind (wpAny_typeOf (T := "range") ⟨_, atG, rfl⟩ ?_)
  have t1 : Builtin.List.listSameRef (.ref L) (.ref g) = false := by unfold Builtin.List.listSameRef; simp [neq]
  have t2 : (Value.type "range" == Value.type "list") = false := by decide
  have t3 : (Value.type "range" == Value.type "tuple") = false := by decide
  simp only [t1, t2, t3, Bool.or_self, Bool.false_eq_true, if_false]
  refine wpAny_bind (wpAny_pyIter_longrange atG big ?_)
  refine wpAny_bind (wpAny_holding (wpAny_hint_range (n := n) (Heap.get?_push_of_some _ atG) size few ?_))
  have itr : IsLongIter (s.heap.push { cls := .type "longrange_iterator", data := .fields #[rawInt lo, rawInt (Builtin.Range.rangeSize lo hi 1), rawInt 1] }) s.heap.objs.size (lo + ((0 : Nat) : Int) * 1) ((n : Int) - ((0 : Nat) : Int)) 1 := by
    rw [size]
    simpa using Heap.get?_push_size _ rfl
  have lst1 := Heap.get?_push_of_some { cls := .type "longrange_iterator", data := .fields #[rawInt lo, rawInt (Builtin.Range.rangeSize lo hi 1), rawInt 1] } atL
  refine wpAny_ite_split (fun _ => ?_) (fun _ => wpAny_pure ⟨plainId_quiet F.plain_extend_loop _, turns _ cap _ itr (fun b o _ e => Heap.get?_push_of_some _ e) lst1⟩)
  refine wpAny_bind (wpAny_rule (wpAny_bind ?_))
  show wpAny _ _ (do updateSeq L (fun q => q.push .none); updateSeq L (fun q => q.pop)) _ _ _
  refine wpAny_bind (wpAny_updateSeq lst1 rfl ?_)
  have lst2 := Heap.get?_update_self (Obj.mapSeq (fun q => q.push Value.none)) lst1 rfl
  refine wpAny_updateSeq (hz := by seq_fits) lst2 rfl ?_
  have lst3 := Heap.get?_update_self (Obj.mapSeq (fun q => q.pop)) lst2 rfl
  refine wpAny_pure ⟨plainId_quiet F.plain_extend_loop _, turns _ _ _ ?_ (fun b o nb e => ?_) lst3⟩
  · refine Eq.trans (Heap.get?_update_other _ _ neI) ?_
    exact Eq.trans (Heap.get?_update_other _ _ neI) itr
  · refine Eq.trans (Heap.get?_update_other _ _ (Ne.symm nb)) ?_
    refine Eq.trans (Heap.get?_update_other _ _ (Ne.symm nb)) ?_
    exact Heap.get?_push_of_some _ e
theorem lr_init {Z : Result → Shared → Prop} {g : Addr} {lo hi : Int} {k1 k2 k3 : Tok} {n : Nat} (free : A.handled = none) (atG : IsRange s.heap g lo hi 1 k1 k2 k3) (big : Builtin.Range.small lo hi 1 = false)
    (size : Builtin.Range.rangeSize lo hi 1 = n) (few : n ≤ 2 ^ 24) (L : Addr) (atL : s.heap.get? L = some { cls := .type "list", data := .seq #[] })
    (z : ∀ h2 tk its cap2, (∀ b o, b ≠ L → s.heap.get? b = some o → h2.get? b = some o) → h2.get? L = some { cls := .type "list", dict := none, data := .seq its cap2, slots := #[] } →
      ItemsOf (fun i v => ∃ t, v = .int (lo + i * 1) t) its n → Z (.ok (.ret .none)) { s with heap := h2, toks := tk }) :
    wpAny (model P w) A.in1 (Builtin.«list.__init__» ⟨[.ref L, .ref g], []⟩)
      (fun fin s2 => match fin with | .done f => Z (.ok f) s2 | .again c2 => c2.quiet = true ∧ codeAny (model P w) A c2 Z s2) (fun e s2 => Z (.error e) s2) s := by
  have neq : L ≠ g := by
    rintro rfl
    rw [atG] at atL
    simp at atL
  show wpAny _ _ (do
    let before ← Builtin.List.listItems (.ref L)
    Builtin.List.listUpdate (.ref L) (fun _ => #[])
    letGo before.toList.reverse
    Builtin.List.listExtendWith (.ref L) (.ref g) .none) _ _ s
  refine wpAny_bind ?_
  unfold Builtin.List.listItems
  refine wpAny_bind (wpAny_seqItems atL rfl (wpAny_pure ?_))
  show wpAny _ _ (do
    updateSeq L (fun _ => #[])
    letGo (#[] : Array Value).toList.reverse
    Builtin.List.listExtendWith (.ref L) (.ref g) .none) _ _ s
  refine wpAny_bind (wpAny_updateSeq atL rfl ?_)
  have lst2 := Heap.get?_update_self (Obj.mapSeq (fun _ : Array Value => (#[] : Array Value))) atL rfl
  have rest : ∀ b o, b ≠ L → s.heap.get? b = some o → (s.heap.update L (Obj.mapSeq (fun _ : Array Value => (#[] : Array Value)))).get? b = some o := by
    intro b o nb e
    exact Heap.get?_update_other _ _ (Ne.symm nb) |>.trans e
  refine wpAny_bind (wpAny_letGo ?_)
  refine lr_ext free (rest g _ (Ne.symm neq) atG) big size few L .none _ lst2 fun h2 tk its cap2 stay lst got => ?_
  exact z h2 tk its cap2 (fun b o nb e => stay b o nb (rest b o nb e)) lst got
theorem lr_call {Q : Value → Shared → Prop} {g : Addr} {lo hi : Int} {k1 k2 k3 : Tok} {n : Nat} (free : A.handled = none) (atG : IsRange s.heap g lo hi 1 k1 k2 k3) (big : Builtin.Range.small lo hi 1 = false)
    (size : Builtin.Range.rangeSize lo hi 1 = n) (few : n ≤ 2 ^ 24)
    (z : ∀ h2 tk its cap2, (∀ b o, s.heap.get? b = some o → h2.get? b = some o) → h2.get? s.heap.objs.size = some { cls := .type "list", dict := none, data := .seq its cap2, slots := #[] } →
      ItemsOf (fun i v => ∃ t, v = .int (lo + i * 1) t) its n → Q (.ref s.heap.objs.size) { s with heap := h2, toks := tk }) :
    wpAny (model P w) A (call (.type "list") [.ref g]) Q E s := by
  refine callType_codes (Q₁ := fun made s1 => made = .ref s.heap.objs.size ∧ s1 = { s with heap := s.heap.push { cls := .type "list", data := .seq #[] } }) F.called_list (F.typeCall_list_1 _) F.entry_list_init (code_list_new _ ⟨rfl, rfl⟩) ?_
  rintro made s1 ⟨rfl, rfl⟩
  have new : (s.heap.push { cls := .type "list", data := .seq #[] }).get? s.heap.objs.size = some { cls := .type "list", data := .seq #[] } := Heap.get?_push_size _ rfl
  refine ⟨⟨_, new, rfl⟩, F.args_list_init_2 _ _, ?_⟩
  refine lr_init (A := A.in1) free (Heap.get?_push_of_some _ atG) big size few _ new fun h2 tk its cap2 stay lst got => ⟨rfl, ?_⟩
  exact z h2 tk its cap2 (fun b o e => stay b o (Nat.ne_of_lt (Heap.lt_size e)) (Heap.get?_push_of_some _ e)) lst got
end
section
variable {X : Cx} {e : Expr} {te : L2.St → Hp → (Int → Int → Hp → Prop) → Prop}
/-- what a list of a range holds -/
def rgs (lo : Int) (n : Nat) : List Int := (List.range n).map fun i : Nat => lo + (i : Int)
def tLsR (te : L2.St → Hp → (Int → Int → Hp → Prop) → Prop) : TE := fun σ H Q => te σ H fun lo hi H1 => (hi - lo).toNat ≤ 2 ^ 24 ∧ ∀ q, H1 q = none → Q (.ref q) (upd H1 q (.lst ((rgs lo (hi - lo).toNat).map V.int)))
theorem rgs_V (lo hi : Int) : (rgs lo (hi - lo).toNat).map V.int = rgV lo hi := by
  unfold rgs rgV
  rw [List.map_map]
  rfl
/-- list(range(lo, hi)), however great the ends are -/
theorem pe_lsR {p pos : Pos} (hc : X.calm = true) (hg : Gl X "list") (hm : X.mg "list" = none) (he : PRg X e te) (na : starEach [e] X.env = (false, eval e X.env) :: starEach [] X.env := by rfl) : PE X (.Call (.Name "list" p) [e] [] pos) (tLsR te) := by
  refine ⟨fun pins s σ H Q I h => ?_⟩
  refine Call_ (ld_blt I hg hm boot_list (PyProof.Rows.callWith_type1 (args_cons (thn (he pins s σ H _ I h) fun x s1 ⟨g, lo, hi, k1, k2, k3, H1, ex, atG, I1, few, q⟩ => args_nil ?_) na) na))
  subst ex
  rw [rgs_V] at q
  have fin : ∀ h2 tk its cap2, (∀ b o, s1.heap.get? b = some o → h2.get? b = some o) → h2.get? s1.heap.objs.size = some { cls := .type "list", dict := none, data := .seq its cap2, slots := #[] } →
      ItemsOf (fun i v => ∃ t, v = .int (lo + i * 1) t) its (hi - lo).toNat → ∃ x H2, L2.Inv X pins σ H2 { s1 with heap := h2, toks := tk } ∧ RelV x (Value.ref s1.heap.objs.size) ∧ Q x H2 := by
    intro h2 tk its cap2 stay lst got
    refine ⟨.ref s1.heap.objs.size, upd H1 s1.heap.objs.size (.lst (rgV lo hi)), I1.laid stay (Nat.le_refl _) (show ObjOk X.prog X.w _ _ _ (.lst (rgV lo hi)) from ⟨?_, its.toList, cap2, vals_rg got, ?_⟩), rfl, q _ (I1.hok.fresh (Nat.le_refl _))⟩
    · rw [rgV_length, sizeLine_eq]
      omega
    · rw [Array.toArray_toList]
      exact lst
  cases hs : Builtin.Range.small lo hi 1 with
  | true => exact call_list_range (n := (hi - lo).toNat) (I1.ok.hd hc) atG hs (rangeSize_nat lo hi) few fin
  | false => exact lr_call (n := (hi - lo).toNat) (I1.ok.hd hc) atG hs (rangeSize_nat lo hi) few fin
end
section
variable {σ : L2.St} {H : Hp} {Q : VK} {ta tb : TE}
def lsK (Q : VK) (lo hi : Int) (H1 : Hp) : Prop := (hi - lo).toNat ≤ 2 ^ 24 ∧ ∀ q, H1 q = none → Q (.ref q) (upd H1 q (.lst ((rgs lo (hi - lo).toNat).map V.int)))
theorem x_lsR (h : ta σ H fun x H1 => tb σ H1 fun y H2 => ∃ i j, x = .int i ∧ y = .int j ∧ lsK Q i j H2) : tLsR (tRg2 ta tb) σ H Q := h
theorem x_lsK {i j : Int} (few : (j - i).toNat ≤ 2 ^ 24) (h : ∀ q, H q = none → Q (.ref q) (upd H q (.lst ((rgs i (j - i).toNat).map V.int)))) : ∃ i' j', V.int i = .int i' ∧ V.int j = .int j' ∧ lsK Q i' j' H := ⟨i, j, rfl, rfl, few, h⟩
end
section
variable {K : PySem.W.Frag} {H : Hp} {Q : VK} {p q : Addr} {ns : List Int}
theorem ints_lay : ∀ ns : List Int, PyData.canLayAll0 (ns.map PyData.int) = true
  | [] => by simp [PyData.canLayAll0]
  | n :: r => by
    rw [List.map_cons, PyData.canLayAll0, ints_lay r]
    simp [PyData.canLay0]
theorem ints_depth : ∀ ns : List Int, PyData.depthAll (ns.map PyData.int) = 0
  | [] => by simp [PyData.depthAll]
  | n :: r => by
    rw [List.map_cons, PyData.depthAll, ints_depth r]
    simp [PyData.depth]
theorem ints_shaped (ns : List Int) : SeqAt.shaped (.list (ns.map PyData.int)) = true := by
  unfold SeqAt.shaped
  have h1 : PyData.canLay0 (.list (ns.map PyData.int)) = true := by
    unfold PyData.canLay0
    exact ints_lay ns
  have h2 : PyData.depth (.list (ns.map PyData.int)) = 1 := by
    unfold PyData.depth
    rw [ints_depth]
  rw [h1, h2]
  decide
/-- two lists of the same whole numbers -/
theorem x_neLI (hp : H p = some (.lst (ns.map V.int))) (hq : H q = some (.lst (ns.map V.int))) (h : Q (.bl false) H) : rNeD K (.ref p) (.ref q) H Q :=
  ⟨_, _, .lst (sql hp) (dpAll_ints ns), .lst (sql hq) (dpAll_ints ns), ints_shaped _, ints_shaped _, by
    have e : PyData.eqv (.list (ns.map PyData.int)) (.list (ns.map PyData.int)) = true := by
      rw [PyData.eqv, eqvAll_ints]
      simp
    rw [e]; exact h⟩
theorem x_notIn01 {d : Int} (e : H p = some (.tup [.int 0, .int 1])) (hd : d = 0 ∨ d = 1) (h : Q (.bl false) H) : rIn K true (.int d) (.ref p) H Q := ⟨p, _, rfl, .inr (.inl (.inl e)), rfl, rfl, by
  have e2 : inV (.int d) [.int 0, .int 1] = true := by
    rcases hd with rfl | rfl <;> decide +kernel
  rw [e2]; exact h⟩
theorem rgs_succ (lo : Int) (n : Nat) : rgs lo (n + 1) = rgs lo n ++ [lo + (n : Int)] := by
  unfold rgs
  rw [List.range_succ, List.map_append]
  rfl
end
end Wm

/-! != by an own __eq__; max(list, default=n); a comprehension of two clauses over ranges. -/
namespace Wm
open PySem PySem.Spec PyProof.Rows L2
/-! ### max with a default -/
theorem mxo : ∀ (ys : List Int) (x : Int), PySem.W.maxOf x ys ∈ x :: ys ∧ ∀ y ∈ x :: ys, y ≤ PySem.W.maxOf x ys
  | [], x => ⟨List.mem_cons_self, fun y hy => by
      have e : y = x := by simpa using hy
      rw [e]; exact Int.le_refl _⟩
  | y :: ys, x => by
    have e : PySem.W.maxOf x (y :: ys) = PySem.W.maxOf (if x < y then y else x) ys := by
      show PySem.W.maxOf (if decide (x < y) = true then y else x) ys = _
      simp
    obtain ⟨h1, h2⟩ := mxo ys (if x < y then y else x)
    rw [e]
    refine ⟨?_, fun z hz => ?_⟩
    · rcases List.mem_cons.mp h1 with h | h
      · rw [h]; split <;> simp
      · simp [h]
    · have h3 := h2 _ List.mem_cons_self
      have hx : x ≤ if x < y then y else x := by split <;> omega
      have hy : y ≤ if x < y then y else x := by split <;> omega
      rcases List.mem_cons.mp hz with rfl | hz
      · exact Int.le_trans hx h3
      · rcases List.mem_cons.mp hz with rfl | hz
        · exact Int.le_trans hy h3
        · exact h2 z (List.mem_cons_of_mem _ hz)
theorem hold_ints {h : Heap} : ∀ {us : List Value} {ns : List Int}, IntsAre us ns → PySem.W.HoldAll h us ns
  | _, _, .nil => PySem.W.HoldAll.nil
  | _, _, .cons n t q => PySem.W.HoldAll.cons (PySem.W.holds_int n t) (hold_ints q)
section
variable {X : Cx}
def rMaxDf (K : PySem.W.Frag) : List V → List V → Hp → VK → Prop := fun vs zs H Q => ∃ (a : Addr) (ns : List Int) (d : Int), vs = [V.ref a] ∧ zs = [V.int d] ∧ SqL K H a (ns.map V.int) ∧ ∀ m, ((ns = [] ∧ m = d) ∨ (m ∈ ns ∧ ∀ y, y ∈ ns → y ≤ m)) → Q (.int m) H
theorem cr_maxDf {K : PySem.W.Frag} (eK : X.K = K) (hc : X.calm = true) (hu : X.A.units + 64 < cLine) : CallRK X (.builtin "max") [Str.ofString "default"] (rMaxDf K) := by
  subst eK
  intro pins s σ H vs zs us ws Q I r rz h
  obtain ⟨a, ns, d, rfl, rfl, hs, q⟩ := h
  obtain ⟨its, rv, hl, _⟩ := I.list hs
  obtain rfl := Vals.ref1 r
  obtain ⟨w1, rfl, e1⟩ := vals1 rz
  obtain ⟨td, rfl⟩ : ∃ t, w1 = Value.int d t := e1
  refine PySem.W.max_list_datum_default (α := Int) (I.ok.hd hc) hl.isList (hold_ints rv.ints) (by show X.A.units + 1 + 0 < cLine; omega) (fun e g tk kp => ?_) fun y ys i v g tk e hi hv kp => ?_
  · exact ⟨.int d, H, I.kept kp, ⟨_, rfl⟩, q d (.inl ⟨e, rfl⟩)⟩
  · obtain ⟨t, rfl⟩ := PySem.W.int_of_holds hv
    obtain ⟨h1, h2⟩ := mxo ys y
    exact ⟨.int _, H, I.kept kp, ⟨_, rfl⟩, q _ (.inr ⟨by rw [e]; exact h1, fun z hz => h2 z (by rw [← e]; exact hz)⟩)⟩
end
/-! ### != by an own __eq__ -/
section
variable {X : Cx} {CX : CXT} {C f : Addr} {fd : FuncData} {ps : List Str} {n : Nat} {sp : Sp}
def rNeII (C : Addr) (sp : Sp) : R2 := fun x y H Q => ∃ a b dx dy fs gs, x = .ref a ∧ y = .ref b ∧ H a = some (.ins C dx fs) ∧ H b = some (.ins C dy gs) ∧ sp [.ref a, .ref b] H (fun v H' => ∃ k, v = .bl k ∧ Q (.bl !k) H') E0
theorem op_neII (F : FnOk X.prog X.w X.K X.mg X.base CX0 n f fd ps sp) (M : Meth X.K C "__eq__" f) (hne : PySem.W.findIn X.K (.ref C) "__ne__" = some (some (.builtin "object.__ne__"))) (hob : PySem.W.mroIn X.K C (.type "object") = some true)
    (hb : Binds X.K fd ps []) (hr : Room (n + 1) X.A) : OpR X (compareOp .NotEq) (rNeII C sp) := by
  intro pins s σ H x y v u Q I rx ry hq
  obtain ⟨a, b, dx, dy, fs, gs, rfl, rfl, ha, hb', hs⟩ := hq
  cases rx
  cases ry
  show wpAny (model X.prog X.w) X.A (richCompare .NotEq (Value.ref a) (Value.ref b)) (EP X pins σ Q) X.xe s
  obtain ⟨mA, J, _⟩ := ins_get I.hok ha
  obtain ⟨mB, J', _⟩ := ins_get I.hok hb'
  obtain ⟨od, J, _⟩ := J.look
  obtain ⟨od', J', _⟩ := J'.look
  have X0 := I.kIn
  have hl := F.len _ _ _ _ hs
  have bd := hb s [.ref a, .ref b] I.kIn (by simpa using hl)
  rw [List.append_nil] at bd
  have r2 : Vals [V.ref a, V.ref b] [Value.ref a, Value.ref b] := .cons rfl (.cons rfl .nil)
  have sub : PySem.W.Looks (model X.prog X.w) s.heap (isInstance (.ref a) (.type "object")) true := J.type.andThen (PySem.W.looks_mroIn X0 hob)
  have ask : ∀ {Q' : Value → Shared → Prop}, (∀ k s', EP X pins σ Q (.bool !k) s' → Q' (.bool k) s') → wpAny (model X.prog X.w) X.A.in1 (call (.ref f) [.ref a, .ref b]) Q' X.xe s := fun {Q'} h => by
    refine wpAny_call (codeAny_mono (F.run X.A.in1 X.stack s H ⟨[.ref a, .ref b], []⟩ [.ref a, .ref b] [.ref a, .ref b] _ E0 hr.in1 I.env0.in1 bd r2 hs) fun r s' hq => ?_)
    cases r with
    | error e => exact hq.elim
    | ok fl =>
      cases fl with
      | ret w =>
        obtain ⟨z, H', I', rz, k, ez, ex⟩ := I.after hq
        subst ez
        cases rz
        exact h k s' ⟨.bl !k, H', I', rfl, ex⟩
      | next => exact False.elim hq
      | brk => exact False.elim hq
      | cont => exact False.elim hq
  have inn : wpAny (model X.prog X.w) X.A.in1 (Builtin.«object.__ne__» ⟨[.ref a, .ref b], []⟩) (fun fin s' => ∃ k, fin = .done (.ret (.bool !k)) ∧ EP X pins σ Q (.bool !k) s') X.xe s := by
    unfold Builtin.«object.__ne__»
    refine wpAny_bind (m := slotArgs "__ne__" 1 _) (wpAny_pure (wpAny_bind (wpAny_cRoomFor hr.in1.units0 ?_)))
    refine wpAny_bind (PySem.W.ifBound_K X0 J M.at_ M.fn (ask fun k s' hq => wpAny_bind (wpAny_truthy_bool (wpAny_pure ⟨k, rfl, hq⟩))))
  have chk : wpAny (model X.prog X.w) X.A.in1 (checkBuiltinCall "object.__ne__" ⟨[.ref a, .ref b], []⟩) (fun _ s' => s' = s) X.xe s := by
    simp only [checkBuiltinCall, PySem.F.cmpKind_ne, PySem.F.cmpSplit_ne]
    refine wpAny_bind (sub.here ?_)
    have ag := PySem.F.cmpArgs_ne (.ref a) (.ref b)
    cases sg : Manifest.signature? "object.__ne__" with
    | none => exact wpAny_pure rfl
    | some sig =>
      simp only [argsOk, sg] at ag
      show wpAny _ _ (Bind.checkArgs "object.__ne__" sig ⟨[.ref a, .ref b], []⟩) _ _ s
      rw [ag]
      exact wpAny_pure rfl
  have cl : wpAny (model X.prog X.w) X.A (call (.builtin "object.__ne__") [.ref a, .ref b]) (fun v s' => ∃ k, v = .bool !k ∧ EP X pins σ Q (.bool !k) s') X.xe s := by
    refine wpAny_call (codeAny_call_builtin PySem.F.cmp_object.ne.plain PySem.F.cmpEntry_ne (wpAny_mono chk (fun _ s1 e => ?_) fun _ _ e => e))
    subst e
    refine wpAny_mono inn (fun fin s' z => ?_) fun _ _ e => e
    obtain ⟨k, rfl, hq⟩ := z
    exact ⟨k, rfl, hq⟩
  have one : wpAny (model X.prog X.w) X.A (tryCompare (.ref a) "__ne__" (.ref b)) (fun r s' => ∃ k, r = some (.bool !k) ∧ EP X pins σ Q (.bool !k) s') X.xe s := by
    unfold tryCompare
    refine wpAny_bind ?_
    simp only [callSpecialIfBound?, bindSpecialIfBound?]
    refine wpAny_holding (wpAny_bind (wpAny_bind (wpAny_bind (J.type.here ((PySem.W.looks_findIn X0 hne).here ?_)))))
    simp only [PySem.F.cmp_object.ne.bind]
    refine wpAny_bind (wpAny_askSetting (wpAny_ite ?_))
    have go : wpAny (model X.prog X.w) X.A (call (.builtin "object.__ne__") ([.ref a] ++ [.ref b]) >>= fun v => pure (some v)) (fun r s' => ∃ k, r = some (.bool !k) ∧ EP X pins σ Q (.bool !k) s') X.xe s := by
      refine wpAny_bind (wpAny_mono cl (fun v s' z => ?_) fun _ _ e => e)
      obtain ⟨k, rfl, hq⟩ := z
      exact wpAny_pure ⟨k, rfl, hq⟩
    split
    · refine wpAny_bind (wpAny_pure (wpAny_pure (wpAny_mono go (fun r s' z => ?_) fun _ _ e => e)))
      obtain ⟨k, rfl, hq⟩ := z
      exact wpAny_pure ⟨k, rfl, hq⟩
    · refine wpAny_tryCatch (wpAny_bind (wpAny_pure (wpAny_pure (wpAny_mono go (fun r s' z => ?_) fun _ _ e => e))))
      obtain ⟨k, rfl, hq⟩ := z
      exact wpAny_pure ⟨k, rfl, hq⟩
  unfold richCompare
  simp only [oneThing_ref]
  refine wpAny_holding (wpAny_bind (wpAny_cRoomFor hr.units0 ?_))
  rw [cmpInfo_NotEq]
  dsimp only
  refine wpAny_bind (J.type.here (wpAny_bind (J'.type.here ?_)))
  rw [show (Value.ref C != Value.ref C) = false from by simp]
  simp only [Bool.false_eq_true, if_false]
  refine wpAny_bind (wpAny_pure ?_)
  simp only [Bool.false_eq_true, if_false]
  refine wpAny_bind (wpAny_mono one (fun r s' z => ?_) fun _ _ e => e)
  obtain ⟨k, rfl, hq⟩ := z
  exact wpAny_pure hq
end
section
variable {K : PySem.W.Frag} {σ σ2 σ0 : L2.St} {H H4 : Hp} {Q : VK} {g g1 : TG} {tt tt1 : TT} {te : TE} {vs vs1 : List Nat} {wi1 : TI} {p q D : Addr} {f s t u : Int}
theorem x_neII {sp : Sp} (d : Drm K H p f s) (d' : Drm K H q t u) (h : sp [.ref p, .ref q] H (fun v H' => ∃ k, v = .bl k ∧ Q (.bl !k) H') E0) : rNeII (He.ga K "Drum") sp (.ref p) (.ref q) H Q := by
  obtain ⟨dx, e⟩ := d.ob
  obtain ⟨dy, e'⟩ := d'.ob
  exact ⟨p, q, dx, dy, _, _, rfl, rfl, e, e', h⟩
theorem x_cKw {r : List V → List V → Hp → VK → Prop} {ta tk : TA} (h : ta σ H fun vs H1 => tk σ H1 fun zs H2 => r vs zs H2 Q) : tCKw r ta tk σ H Q := h
theorem x_maxDf {d : Int} {ns : List Int} (e : H p = some (.lst (ns.map V.int))) (h : ∀ m, ((ns = [] ∧ m = d) ∨ (m ∈ ns ∧ ∀ y, y ∈ ns → y ≤ m)) → Q (.int m) H) : rMaxDf K [.ref p] [.int d] H Q := ⟨p, ns, d, rfl, rfl, sql e, h⟩
/-! ### comprehensions of two clauses -/
def lcI (J1 : It) (g1 : TG) (tt1 : TT) (te : TE) (vs1 : List Nat) (σ2 : L2.St) (D : Addr) (Nx : Hp → Prop) (H4 : Hp) : Prop := ∃ W1 : Nat → Nat → Hp → Prop, (∃ m, W1 0 m H4) ∧ ∀ j k H, W1 j k H →
  (J1.stop j H ∧ Nx H) ∨ (J1.go j H ∧ ∃ Ny : Hp → Prop, (∀ H', Ny H' → ∃ k', k' < k ∧ W1 (j + 1) k' H') ∧ ∀ x H', J1.yld j H x H' → g1 x (wipe σ2 vs1) H' fun σ3 H5 => wipe σ3 vs1 = wipe σ2 vs1 ∧ tt1 σ3 H5 fun b H6 =>
    if b = true then te σ3 H6 fun y H7 => ∃ acc, H7 D = some (.lst acc) ∧ acc.length < sizeLine ∧ Ny (upd H7 D (.lst (acc ++ [y]))) else Ny H6)
def lcJ2 (J : It) (g : TG) (tt : TT) (wi1 : TI) (g1 : TG) (tt1 : TT) (te : TE) (vs vs1 : List Nat) (σ : L2.St) (Q : VK) (H1 : Hp) : Prop := ∀ D, H1 D = none → ∃ W : Nat → Nat → Hp → Prop, (∃ m, W 0 m (upd H1 D (.lst []))) ∧ ∀ i m H, W i m H →
  (J.stop i H ∧ Q (.ref D) H) ∨ (J.go i H ∧ ∃ Nx : Hp → Prop, (∀ H', Nx H' → ∃ m', m' < m ∧ W (i + 1) m' H') ∧ ∀ x H', J.yld i H x H' → g x (wipe σ vs) H' fun σ2 H2 => wipe σ2 vs = wipe σ vs ∧ tt σ2 H2 fun b H3 =>
    if b = true then wi1 σ2 H3 fun J1 H4 => lcI J1 g1 tt1 te vs1 σ2 D Nx H4 else Nx H3)
theorem x_lc2W {tA : TA} (h : tA σ H fun ws H1 => asRW (fun J H => lcJ2 J g tt wi1 g1 tt1 te vs vs1 σ Q H) ws H1) : tLc2 (iRngW tA) g tt wi1 g1 tt1 te vs vs1 σ H Q := h
theorem x_i1 {tA : TA} {R : It → Hp → Prop} (h : tA σ H fun ws H1 => asR1 R ws H1) : iRng1 tA σ H R := h
def lcY (D : Addr) (I : List V → Hp → Prop) (H : Hp) : Prop := ∃ acc, H D = some (.lst acc) ∧ I acc H
def lcZ (D : Addr) (I : List V → Hp → Prop) (y : V) (H : Hp) : Prop := ∃ acc, H D = some (.lst acc) ∧ acc.length < sizeLine ∧ lcY D I (upd H D (.lst (acc ++ [y])))
theorem x_lcZ {I : List V → Hp → Prop} {y : V} {acc : List V} (e : H D = some (.lst acc)) (l : acc.length ≤ 1000) (h : I (acc ++ [y]) (upd H D (.lst (acc ++ [y])))) : lcZ D I y H := ⟨acc, e, sizeLine_1000 l, _, upd_same, h⟩
theorem x_lcY {I : List V → Hp → Prop} {acc : List V} (e : H D = some (.lst acc)) (h : I acc H) : lcY D I H := ⟨acc, e, h⟩
theorem x_lc2R {lo : Int} {n : Nat} (hw : wipe σ vs = σ0) (I : Nat → List V → Hp → Prop) (h0 : ∀ D, H D = none → I 0 [] (upd H D (.lst [])))
    (hs : ∀ D i acc H', H D = none → i < n → I i acc H' → H' D = some (.lst acc) → g (.int (lo + i)) σ0 H' fun σ2 H2 => wipe σ2 vs = σ0 ∧ tt σ2 H2 fun b H3 =>
      if b = true then wi1 σ2 H3 fun J1 H4 => lcI J1 g1 tt1 te vs1 σ2 D (lcY D (I (i + 1))) H4 else lcY D (I (i + 1)) H3)
    (hd : ∀ D acc H', H D = none → H' D = some (.lst acc) → I n acc H' → Q (.ref D) H') : lcJ2 (Itr lo n) g tt wi1 g1 tt1 te vs vs1 σ Q H := by
  subst hw
  refine fun D hD => ⟨fun i m H' => m = n - i ∧ i ≤ n ∧ lcY D (I i) H', ⟨n, by simp, Nat.zero_le _, [], upd_same, h0 D hD⟩, ?_⟩
  rintro i m H' ⟨rfl, hi, acc, ea, q⟩
  by_cases hlt : i < n
  · refine .inr ⟨hlt, lcY D (I (i + 1)), fun H2 p' => ⟨n - (i + 1), by omega, rfl, hlt, p'⟩, fun x H2 y => ?_⟩
    obtain ⟨rfl, y⟩ := y
    subst y
    exact hs D i acc _ hD hlt q ea
  · have e2 : i = n := by omega
    subst e2
    exact .inl ⟨Nat.le_refl _, hd D acc H' hD ea q⟩
theorem x_lcI {lo : Int} {n : Nat} {Nx : Hp → Prop} (hw : wipe σ2 vs1 = σ0) (I : Nat → List V → Hp → Prop) (h0 : lcY D (I 0) H4)
    (hs : ∀ j acc H', j < n → I j acc H' → H' D = some (.lst acc) → g1 (.int (lo + j)) σ0 H' fun σ3 H5 => wipe σ3 vs1 = σ0 ∧ tt1 σ3 H5 fun b H6 => if b = true then te σ3 H6 fun y H7 => lcZ D (I (j + 1)) y H7 else lcY D (I (j + 1)) H6)
    (hd : ∀ acc H', H' D = some (.lst acc) → I n acc H' → Nx H') : lcI (Itr lo n) g1 tt1 te vs1 σ2 D Nx H4 := by
  subst hw
  refine ⟨fun j m H' => m = n - j ∧ j ≤ n ∧ lcY D (I j) H', ⟨n, by simp, Nat.zero_le _, h0⟩, ?_⟩
  rintro j m H' ⟨rfl, hj, acc, ea, q⟩
  by_cases hlt : j < n
  · refine .inr ⟨hlt, lcY D (I (j + 1)), fun H2 p' => ⟨n - (j + 1), by omega, rfl, hlt, p'⟩, fun x H2 y => ?_⟩
    obtain ⟨rfl, y⟩ := y
    subst y
    exact hs j acc _ hlt q ea
  · have e2 : j = n := by omega
    subst e2
    exact .inl ⟨Nat.le_refl _, hd acc H' ea q⟩
end
/-! ### drums till a first and a step; from when touches are one drum's alone -/
/-- the first cell that lies otherwise -/
def FstD (f s g t d : Int) : Prop := 1 ≤ d ∧ (∀ j, 0 ≤ j → j < d → unD f s j = unD g t j) ∧ unD f s d ≠ unD g t d
theorem FstD.uniq {f s g t d e : Int} (a : FstD f s g t d) (b : FstD f s g t e) : d = e := by
  have h1 : ¬ d < e := fun z => a.2.2 (b.2.1 d (by have := a.1; omega) z)
  have h2 : ¬ e < d := fun z => b.2.2 (a.2.1 e (by have := b.1; omega) z)
  omega
theorem fst_part {f s g t : Int} {v : V} (hf : 1 ≤ f) (hs : 0 ≤ s) (hg : 1 ≤ g) (ht : 0 ≤ t) (a : PartV f s g t v) : (f = g ∧ s = t ∧ v = .non) ∨ (¬ (f = g ∧ s = t) ∧ ∃ c, v = .int c ∧ FstD f s g t c) := by
  rcases un_part hf hs hg ht a with ⟨e, e1, e2, _⟩ | ⟨c, e, c1, c2, _, ne, lo, at'⟩
  · exact .inl ⟨e1, e2, e⟩
  · exact .inr ⟨ne, c, e, c1, lo, at'⟩
theorem fst_other {f s g t : Int} (hf : 1 ≤ f) (hs : 0 ≤ s) (hg : 1 ≤ g) (ht : 0 ≤ t) (ne : f ≠ g) : FstD f s g t (min f g) :=
  ⟨by omega, fun j j0 j1 => (un_firsts hf hs hg ht ne j0).1 j1, (un_firsts hf hs hg ht ne (j := 0) (by decide)).2⟩
def Bds (F S g t : Int) : Prop := 1 ≤ g ∧ g ≤ F ∧ 0 ≤ t ∧ t ≤ S
def KnV (f s F S v : Int) : Prop := 1 ≤ v ∧ (∀ g t, Bds F S g t → ¬ (f = g ∧ s = t) → ∃ d, d < v ∧ FstD f s g t d) ∧ (v = 1 ∨ ∃ g t, Bds F S g t ∧ ¬ (f = g ∧ s = t) ∧ FstD f s g t (v - 1))
theorem KnV.uniq {f s F S v w : Int} (a : KnV f s F S v) (b : KnV f s F S w) : v = w := by
  have go : ∀ {v w : Int}, KnV f s F S v → KnV f s F S w → v ≤ w := fun {v w} a b => by
    rcases a.2.2 with e | ⟨g, t, bd, ne, d⟩
    · have := b.1; omega
    · obtain ⟨d', l, k⟩ := b.2.1 g t bd ne
      have := d.uniq k
      omega
  have h1 := go a b
  have h2 := go b a
  omega
/-- all drums of at most this first and this step -/
def DrL (K : PySem.W.Frag) (H : Hp) (F S : Int) (xs : List V) : Prop := (∀ x ∈ xs, ∃ p g t, x = .ref p ∧ Drm K H p g t ∧ Bds F S g t) ∧ ∀ g t, Bds F S g t → ∃ p, V.ref p ∈ xs ∧ Drm K H p g t
def DrP (K : PySem.W.Frag) (H : Hp) (F S : Int) (i j : Int) (xs : List V) : Prop := (∀ x ∈ xs, ∃ p g t, x = .ref p ∧ Drm K H p g t ∧ Bds F S g t) ∧ ∀ g t, Bds F S g t → (g < i ∨ (g = i ∧ t < j)) → ∃ p, V.ref p ∈ xs ∧ Drm K H p g t
theorem DrP.same {K : PySem.W.Frag} {H H' : Hp} {F S i j : Int} {xs : List V} (a : DrP K H F S i j xs) (e : Same H H') : DrP K H' F S i j xs :=
  ⟨fun x hx => (a.1 x hx).elim fun p ⟨g, t, h1, h2, h3⟩ => ⟨p, g, t, h1, h2.same e, h3⟩, fun g t b c => (a.2 g t b c).elim fun p ⟨h1, h2⟩ => ⟨p, h1, h2.same e⟩⟩
theorem DrP.set {K : PySem.W.Frag} {H : Hp} {F S i j : Int} {xs ys : List V} {o : HO} {D : Addr} (a : DrP K H F S i j xs) (e : H D = some (.lst ys)) : DrP K (upd H D o) F S i j xs :=
  ⟨fun x hx => (a.1 x hx).elim fun p ⟨g, t, h1, h2, h3⟩ => ⟨p, g, t, h1, h2.set e, h3⟩, fun g t b c => (a.2 g t b c).elim fun p ⟨h1, h2⟩ => ⟨p, h1, h2.set e⟩⟩
theorem DrP.app {K : PySem.W.Frag} {H : Hp} {F S i j : Int} {xs : List V} {q : Addr} (a : DrP K H F S i j xs) (d : Drm K H q i j) (b : Bds F S i j) : DrP K H F S i (j + 1) (xs ++ [.ref q]) := by
  refine ⟨fun x hx => ?_, fun g t b' c => ?_⟩
  · rcases List.mem_append.mp hx with hx | hx
    · exact a.1 x hx
    · have e : x = .ref q := by simpa using hx
      exact ⟨q, i, j, e, d, b⟩
  · by_cases z : g = i ∧ t = j
    · rw [z.1, z.2]; exact ⟨q, by simp, d⟩
    · obtain ⟨p, h1, h2⟩ := a.2 g t b' (by omega)
      exact ⟨p, List.mem_append_left _ h1, h2⟩
theorem DrP.next {K : PySem.W.Frag} {H : Hp} {F S i j : Int} {xs : List V} (a : DrP K H F S i j xs) (h : S < j) : DrP K H F S (i + 1) 0 xs :=
  ⟨a.1, fun g t b c => a.2 g t b (by unfold Bds at b; omega)⟩
theorem DrL.same {K : PySem.W.Frag} {H H' : Hp} {F S : Int} {xs : List V} (a : DrL K H F S xs) (e : Same H H') : DrL K H' F S xs :=
  ⟨fun x hx => (a.1 x hx).elim fun p ⟨g, t, h1, h2, h3⟩ => ⟨p, g, t, h1, h2.same e, h3⟩, fun g t b => (a.2 g t b).elim fun p ⟨h1, h2⟩ => ⟨p, h1, h2.same e⟩⟩
def sp__check_tried : Sp := fun vs H Q _ => ∃ F S : Int, vs = [.int F, .int S] ∧ 1 ≤ F ∧ F ≤ 100 ∧ 0 ≤ S ∧ S ≤ 100 ∧ Q .non H
def sp__drums_till (K : PySem.W.Frag) : Sp := fun vs H Q _ => ∃ F S : Int, vs = [.int F, .int S] ∧ 1 ≤ F ∧ F ≤ 20 ∧ 0 ≤ S ∧ S ≤ 20 ∧ ∀ (p : Addr) (H' : Hp) (xs : List V), Same H H' → H' p = some (.lst xs) → DrL K H' F S xs → xs.length ≤ 420 → Q (.ref p) H'
def sp_known_from (K : PySem.W.Frag) : Sp := fun vs H Q _ => ∃ (p : Addr) (f s F S : Int), vs = [.ref p, .int F, .int S] ∧ Drm K H p f s ∧ 1 ≤ F ∧ F ≤ 20 ∧ 0 ≤ S ∧ S ≤ 20 ∧ ∀ (v : Int) (H' : Hp), KnV f s F S v → Same H H' → Q (.int v) H'
section
variable {K : PySem.W.Frag} {H : Hp} {Q : VK} {E : XK} {p : Addr} {f s F S : Int}
theorem y_ctried (h1 : 1 ≤ F) (h2 : F ≤ 100) (h3 : 0 ≤ S) (h4 : S ≤ 100) (h : Q .non H) : sp__check_tried [.int F, .int S] H Q E := ⟨F, S, rfl, h1, h2, h3, h4, h⟩
theorem y_till (h1 : 1 ≤ F) (h2 : F ≤ 20) (h3 : 0 ≤ S) (h4 : S ≤ 20) (h : ∀ (p : Addr) (H' : Hp) (xs : List V), Same H H' → H' p = some (.lst xs) → DrL K H' F S xs → xs.length ≤ 420 → Q (.ref p) H') : sp__drums_till K [.int F, .int S] H Q E := ⟨F, S, rfl, h1, h2, h3, h4, h⟩
theorem y_known (d : Drm K H p f s) (h1 : 1 ≤ F) (h2 : F ≤ 20) (h3 : 0 ≤ S) (h4 : S ≤ 20) (h : ∀ (v : Int) (H' : Hp), KnV f s F S v → Same H H' → Q (.int v) H') : sp_known_from K [.ref p, .int F, .int S] H Q E := ⟨p, f, s, F, S, rfl, d, h1, h2, h3, h4, h⟩
end
theorem Drm.uniq {K : PySem.W.Frag} {H : Hp} {p : Addr} {f s g t : Int} (a : Drm K H p f s) (b : Drm K H p g t) : f = g ∧ s = t := by
  obtain ⟨dx, e⟩ := a.ob
  obtain ⟨dy, e'⟩ := b.ob
  rw [e] at e'
  have e3 : dfl f s = dfl g t := by
    have e4 := Option.some.inj e'
    injection e4
  have e5 : ∀ f s, dfl f s = [(("_first" : Str), V.int f), (("_step" : Str), V.int s)] := fun _ _ => rfl
  rw [e5, e5] at e3
  simpa using e3
theorem x_bq {p : Prop} [Decidable p] {A B : Prop} (h1 : p → B) (h2 : ¬ p → A) : if (!decide p) = true then A else B := by
  by_cases z : p
  · simp [z]; exact h1 z
  · simp [z]; exact h2 z
section
variable {K : PySem.W.Frag} {H : Hp} {Q : VK} {p q : Addr} {ns : List Int}
theorem eqv_l0 : PyData.eqv (.list (ns.map PyData.int)) (.list []) = decide (ns = []) := eqv_il (ns := ns) (ms := [])
theorem x_neL0 (hp : H p = some (.lst (ns.map V.int))) (hq : H q = some (.lst [])) (h : Q (.bl (!decide (ns = []))) H) : rNeD K (.ref p) (.ref q) H Q :=
  ⟨_, _, .lst (sql hp) (dpAll_ints ns), .lst (sql hq) .nil, ints_shaped _, ints_shaped [], by rw [eqv_l0]; exact h⟩
theorem x_eqL0 (hp : H p = some (.lst (ns.map V.int))) (hq : H q = some (.lst [])) (h : Q (.bl (decide (ns = []))) H) : rEqD K (.ref p) (.ref q) H Q :=
  ⟨_, _, .lst (sql hp) (dpAll_ints ns), .lst (sql hq) .nil, ints_shaped _, ints_shaped [], by rw [eqv_l0]; exact h⟩
end
/-- the other ones, by first and step -/
def OtP (H : Hp) (f s F S i j : Int) (xs : List V) : Prop := (∀ x ∈ xs, ∃ (r : Addr) (g t : Int), x = .ref r ∧ H r = some (.tup [.int g, .int t]) ∧ Bds F S g t ∧ ¬ (f = g ∧ s = t)) ∧ ∀ g t, Bds F S g t → (g < i ∨ (g = i ∧ t < j)) → ¬ (f = g ∧ s = t) → ∃ r, V.ref r ∈ xs ∧ H r = some (.tup [.int g, .int t])
section
variable {H H' : Hp} {f s F S i j : Int} {xs ys : List V} {D q : Addr} {o : HO}
theorem OtP.same (a : OtP H f s F S i j xs) (e : Same H H') : OtP H' f s F S i j xs :=
  ⟨fun x hx => (a.1 x hx).elim fun p ⟨g, t, h1, h2, h3⟩ => ⟨p, g, t, h1, e _ _ h2, h3⟩, fun g t b c n => (a.2 g t b c n).elim fun p ⟨h1, h2⟩ => ⟨p, h1, e _ _ h2⟩⟩
theorem OtP.set (a : OtP H f s F S i j xs) (e : H D = some (.lst ys)) : OtP (upd H D o) f s F S i j xs :=
  have go : ∀ {r : Addr} {g t : Int}, H r = some (.tup [.int g, .int t]) → upd H D o r = some (.tup [.int g, .int t]) := fun {r g t} h => by
    rw [upd_ne (ne_of h e (by intro z; cases z))]; exact h
  ⟨fun x hx => (a.1 x hx).elim fun p ⟨g, t, h1, h2, h3⟩ => ⟨p, g, t, h1, go h2, h3⟩, fun g t b c n => (a.2 g t b c n).elim fun p ⟨h1, h2⟩ => ⟨p, h1, go h2⟩⟩
theorem OtP.app (a : OtP H f s F S i j xs) (e : H q = some (.tup [.int i, .int j])) (b : Bds F S i j) (n : ¬ (f = i ∧ s = j)) : OtP H f s F S i (j + 1) (xs ++ [.ref q]) := by
  refine ⟨fun x hx => ?_, fun g t b' c n' => ?_⟩
  · rcases List.mem_append.mp hx with hx | hx
    · exact a.1 x hx
    · have e' : x = .ref q := by simpa using hx
      exact ⟨q, i, j, e', e, b, n⟩
  · by_cases z : g = i ∧ t = j
    · rw [z.1, z.2]; exact ⟨q, by simp, e⟩
    · obtain ⟨p, h1, h2⟩ := a.2 g t b' (by omega) n'
      exact ⟨p, List.mem_append_left _ h1, h2⟩
theorem OtP.skip (a : OtP H f s F S i j xs) (n : f = i ∧ s = j) : OtP H f s F S i (j + 1) xs :=
  ⟨a.1, fun g t b' c n' => a.2 g t b' (by
    rcases c with c | ⟨c1, c2⟩
    · exact .inl c
    · by_cases z : t = j
      · exact absurd ⟨by omega, by omega⟩ n'
      · exact .inr ⟨c1, by omega⟩) n'⟩
theorem OtP.next (a : OtP H f s F S i j xs) (h : S < j) : OtP H f s F S (i + 1) 0 xs :=
  ⟨a.1, fun g t b c n => a.2 g t b (by unfold Bds at b; omega) n⟩
/-- what the law's own look has found, for the others that were looked at -/
def DuP (H : Hp) (f s F S : Int) (xs : List V) (i : Nat) (v : Int) : Prop := 1 ≤ v ∧ (∀ (k : Nat) (r : Addr) (g t : Int), k < i → xs[k]? = some (.ref r) → H r = some (.tup [.int g, .int t]) → ∃ d, d < v ∧ FstD f s g t d) ∧ (v = 1 ∨ ∃ g t, Bds F S g t ∧ ¬ (f = g ∧ s = t) ∧ FstD f s g t (v - 1))
theorem DuP.step {v c g t : Int} {n : Nat} {r : Addr} (a : DuP H f s F S xs n v) (hx : xs[n]? = some (.ref r)) (e : H r = some (.tup [.int g, .int t])) (b : Bds F S g t) (ne : ¬ (f = g ∧ s = t)) (fd : FstD f s g t c) : DuP H f s F S xs (n + 1) (max v (1 + c)) := by
  refine ⟨by have := a.1; omega, fun k r' g' t' hk hx' e' => ?_, ?_⟩
  · by_cases w : k = n
    · subst w
      rw [hx] at hx'
      cases hx'
      rw [e] at e'
      cases e'
      exact ⟨c, by omega, fd⟩
    · obtain ⟨d, h1, h2⟩ := a.2.1 k r' g' t' (by omega) hx' e'
      exact ⟨d, by omega, h2⟩
  · by_cases w : v ≤ 1 + c
    · exact .inr ⟨g, t, b, ne, by rw [show max v (1 + c) - 1 = c by omega]; exact fd⟩
    · rw [show max v (1 + c) = v by omega]
      exact a.2.2
theorem DuP.kn {v : Int} (a : DuP H f s F S xs xs.length v) (o : OtP H f s F S (F + 1) 0 xs) : KnV f s F S v := by
  refine ⟨a.1, fun g t b ne => ?_, a.2.2⟩
  obtain ⟨r, hr, e⟩ := o.2 g t b (by unfold Bds at b; omega) ne
  obtain ⟨k, hk⟩ := List.getElem?_of_mem hr
  have kl : k < xs.length := by
    apply Classical.byContradiction
    intro z
    rw [List.getElem?_eq_none (by omega)] at hk
    cases hk
  exact a.2.1 k r g t kl hk e
theorem kn_far {v : Int} (F1 : 1 ≤ F) (S0 : 0 ≤ S) (h : F < f) (s0 : 0 ≤ s) (a : KnV f s F S v) : v = F + 1 := by
  have bF : Bds F S F 0 := ⟨F1, by omega, by omega, S0⟩
  obtain ⟨d, h1, h2⟩ := a.2.1 F 0 bF (by omega)
  have h3 := h2.uniq (fst_other (f := f) (s := s) (g := F) (t := 0) (by omega) s0 F1 (by omega) (by omega))
  rcases a.2.2 with e | ⟨g, t, b, ne, fd⟩
  · omega
  · unfold Bds at b
    have h4 := fd.uniq (fst_other (f := f) (s := s) (g := g) (t := t) (by omega) s0 b.1 b.2.2.1 (by omega))
    omega
end
end Wm

namespace Wm
open PySem PySem.Spec PyProof.Rows L2
abbrev R : PySem.W.OpenRow := PySem.W.OpenLaw.row PySem.Challenge.rw_wetmarks_k85_whole_from_when_touches_are
def top (i : Nat) : Stmt := PySem.Challenge.pw_wetmarks_k85_whole_from_when_touches_are.main.body.getD i (.Pass ⟨0, 0, 0, 0⟩)
abbrev s_is_whole : Stmt := top 7
abbrev s_is_from : Stmt := top 8
abbrev s_check_turn : Stmt := top 10
abbrev s_check_length : Stmt := top 11
abbrev s_Drumu__initu_ : Stmt := inClass (top 14) 0
abbrev s_Drumu__equ_ : Stmt := inClass (top 14) 1
abbrev s_Drum_first : Stmt := inClass (top 14) 2
abbrev s_Drum_step : Stmt := inClass (top 14) 3
abbrev s_Drum_size : Stmt := inClass (top 14) 4
abbrev s_parted : Stmt := top 17
abbrev s_alike : Stmt := top 18
abbrev s_known_from : Stmt := top 19
abbrev s__check_drum : Stmt := top 20
abbrev s__check_tried : Stmt := top 21
abbrev s__drums_till : Stmt := top 22
abbrev s__least_above : Stmt := top 23
abbrev s__least_from : Stmt := top 24
abbrev s__turned : Stmt := top 25
abbrev s__law_source_of : Stmt := top 27
abbrev s__law_next : Stmt := top 28
abbrev s__law_cell_at : Stmt := top 29
abbrev s__law_turns : Stmt := top 30
abbrev s__law_under : Stmt := top 31
abbrev s_law : Stmt := top 32
def d_is_whole : He.DefD := ⟨("is_whole", none), "is_whole", "is_whole", defArgs s_is_whole, defBody s_is_whole, defScope s_is_whole, [], []⟩
def d_is_from : He.DefD := ⟨("is_from", none), "is_from", "is_from", defArgs s_is_from, defBody s_is_from, defScope s_is_from, [], []⟩
def d_check_turn : He.DefD := ⟨("check_turn", none), "check_turn", "check_turn", defArgs s_check_turn, defBody s_check_turn, defScope s_check_turn, [], []⟩
def d_check_length : He.DefD := ⟨("check_length", none), "check_length", "check_length", defArgs s_check_length, defBody s_check_length, defScope s_check_length, [], []⟩
def d_Drumu__initu_ : He.DefD := ⟨("Drum", some "__init__"), "__init__", "Drum.__init__", defArgs s_Drumu__initu_, defBody s_Drumu__initu_, defScope s_Drumu__initu_, [], []⟩
def d_Drumu__equ_ : He.DefD := ⟨("Drum", some "__eq__"), "__eq__", "Drum.__eq__", defArgs s_Drumu__equ_, defBody s_Drumu__equ_, defScope s_Drumu__equ_, [], []⟩
def d_Drum_first : He.DefD := ⟨("Drum", some "first"), "first", "Drum.first", defArgs s_Drum_first, defBody s_Drum_first, defScope s_Drum_first, [], []⟩
def d_Drum_step : He.DefD := ⟨("Drum", some "step"), "step", "Drum.step", defArgs s_Drum_step, defBody s_Drum_step, defScope s_Drum_step, [], []⟩
def d_Drum_size : He.DefD := ⟨("Drum", some "size"), "size", "Drum.size", defArgs s_Drum_size, defBody s_Drum_size, defScope s_Drum_size, [], []⟩
def d_parted : He.DefD := ⟨("parted", none), "parted", "parted", defArgs s_parted, defBody s_parted, defScope s_parted, [], []⟩
def d_alike : He.DefD := ⟨("alike", none), "alike", "alike", defArgs s_alike, defBody s_alike, defScope s_alike, [], []⟩
def d_known_from : He.DefD := ⟨("known_from", none), "known_from", "known_from", defArgs s_known_from, defBody s_known_from, defScope s_known_from, [], []⟩
def d__check_drum : He.DefD := ⟨("_check_drum", none), "_check_drum", "_check_drum", defArgs s__check_drum, defBody s__check_drum, defScope s__check_drum, [], []⟩
def d__check_tried : He.DefD := ⟨("_check_tried", none), "_check_tried", "_check_tried", defArgs s__check_tried, defBody s__check_tried, defScope s__check_tried, [], []⟩
def d__drums_till : He.DefD := ⟨("_drums_till", none), "_drums_till", "_drums_till", defArgs s__drums_till, defBody s__drums_till, defScope s__drums_till, [], []⟩
def d__least_above : He.DefD := ⟨("_least_above", none), "_least_above", "_least_above", defArgs s__least_above, defBody s__least_above, defScope s__least_above, [], []⟩
def d__least_from : He.DefD := ⟨("_least_from", none), "_least_from", "_least_from", defArgs s__least_from, defBody s__least_from, defScope s__least_from, [], []⟩
def d__turned : He.DefD := ⟨("_turned", none), "_turned", "_turned", defArgs s__turned, defBody s__turned, defScope s__turned, [], []⟩
def d__law_source_of : He.DefD := ⟨("_law_source_of", none), "_law_source_of", "_law_source_of", defArgs s__law_source_of, defBody s__law_source_of, defScope s__law_source_of, [], []⟩
def d__law_next : He.DefD := ⟨("_law_next", none), "_law_next", "_law_next", defArgs s__law_next, defBody s__law_next, defScope s__law_next, [], []⟩
def d__law_cell_at : He.DefD := ⟨("_law_cell_at", none), "_law_cell_at", "_law_cell_at", defArgs s__law_cell_at, defBody s__law_cell_at, defScope s__law_cell_at, [], []⟩
def d__law_turns : He.DefD := ⟨("_law_turns", none), "_law_turns", "_law_turns", defArgs s__law_turns, defBody s__law_turns, defScope s__law_turns, [], []⟩
def d__law_under : He.DefD := ⟨("_law_under", none), "_law_under", "_law_under", defArgs s__law_under, defBody s__law_under, defScope s__law_under, [], []⟩
def d_law : He.DefD := ⟨("law", none), "law", "law", defArgs s_law, defBody s_law, defScope s_law, [], []⟩
def fn : List He.DefD := [d_is_whole, d_is_from, d_check_turn, d_check_length, d_Drumu__initu_, d_Drumu__equ_, d_Drum_first, d_Drum_step, d_Drum_size, d_parted, d_alike, d_known_from, d__check_drum, d__check_tried, d__drums_till, d__least_above, d__least_from, d__turned, d__law_source_of, d__law_next, d__law_cell_at, d__law_turns, d__law_under, d_law]
def fa : List He.Fa := [.glo "is_whole", .glo "is_from", .glo "check_turn", .glo "check_length", .meth "Drum" "__eq__", .meth "Drum" "first", .meth "Drum" "step", .meth "Drum" "size", .glo "parted", .glo "alike", .glo "known_from", .glo "_check_drum", .glo "_check_tried", .glo "_drums_till", .glo "_least_above", .glo "_least_from", .glo "_turned", .glo "_law_source_of", .glo "_law_next", .glo "_law_cell_at", .glo "_law_turns", .glo "_law_under", .glo "law", .glo "Drum", .cls "Drum", .mkr "Drum", .noat "Drum" "_first", .noat "Drum" "_step", .free "bool", .free "enumerate", .free "int", .free "isinstance", .free "len", .free "max", .free "min", .free "range", .free "sorted", .int "TOO_GREAT" 1000000000000000, .int "MOST_TRIED" 100]
def bi : List (Str × String) := []
/-- what else is asked of the text -/
def obsCG (n : Nat) (fa : List He.Fa) (fn : List He.DefD) (bi : List (Str × String)) (ex : PySem.W.Frag → Bool) (g : Addr → Option Obj) : He.AlD × Bool :=
  (He.obsDG n fa fn g, bi.all (bfn (He.frG g (He.asD g n))) && ex (He.frG g (He.asD g n)))
def hookC (n : Nat) (fa : List He.Fa) (fn : List He.DefD) (bi : List (Str × String)) (ex : PySem.W.Frag → Bool) : PySem.W.Hook where
  α := He.AlD × Bool
  obs := fun s => obsCG n fa fn bi ex s.heap.get?
  val := fun _ => (He.valD fn, true)
  says := fun _ h => ∃ K : PySem.W.Frag, K.In h ∧ He.SaysD fa fn K ∧ (∀ q ∈ bi, bfn K q = true) ∧ ex K = true
  of := fun _ _ e => ⟨_, He.frG_in, congrArg (fun z : He.AlD × Bool => z.1) e, fun q hq => List.all_eq_true.mp (He.ba (show (bi.all _ && ex _) = true from congrArg (fun z : He.AlD × Bool => z.2) e)).1 q hq, (He.ba (show (bi.all _ && ex _) = true from congrArg (fun z : He.AlD × Bool => z.2) e)).2⟩
  keeps := fun _ _ _ ⟨K, hK, c⟩ k => ⟨K, PySem.W.Frag.In.keeps hK k, c⟩
theorem obsCG_eq {n : Nat} {fa : List He.Fa} {fn : List He.DefD} {bi : List (Str × String)} {ex : PySem.W.Frag → Bool} {g : Addr → Option Obj} {s : Shared} (h : ∀ a, g a = s.heap.get? a) : obsCG n fa fn bi ex g = (hookC n fa fn bi ex).obs s := by
  have e : g = s.heap.get? := funext h
  rw [e] <;> rfl
def kB (a b : Option (Option Value)) : Bool := decide (a = b)
def insB (K : PySem.W.Frag) (C : Addr) : Bool := decide (PySem.W.findIn K (.ref C) "__class__" = some (some (.builtin "object.__class__"))) && (decide (PySem.W.specialIn K (.builtin "object.__class__") "__get__" = some (some (.builtin "getset_descriptor.__get__"))) && (decide (PySem.W.takesIn K (.builtin "object.__class__") = some true) && (decide (PySem.W.mroIn K C (.type "object") = some true) && decide (PySem.W.kitOne K (.ref C) (.ref C) = some true))))
theorem insB_ok {K : PySem.W.Frag} {C : Addr} (c : Cls K C) (h : insB K C = true) : C8.InsC K C := by
  obtain ⟨h1, h⟩ := He.ba h
  obtain ⟨h2, h⟩ := He.ba h
  obtain ⟨h3, h⟩ := He.ba h
  obtain ⟨h4, h5⟩ := He.ba h
  exact ⟨c, of_decide_eq_true h1, of_decide_eq_true h2, of_decide_eq_true h3, of_decide_eq_true h4, of_decide_eq_true h5⟩
def ex (K : PySem.W.Frag) : Bool := decide (PySem.W.findIn K (.ref (He.ga K "Drum")) "__ne__" = some (some (.builtin "object.__ne__")) ∧ PySem.W.mroIn K (He.ga K "Drum") (.type "object") = some true) && (insB K (He.ga K "Drum"))
/-- what the walk asks of the text as the top has made it -/
structure Txt (K : PySem.W.Frag) (mg : Str → Option Value) : Prop where
  g_is_whole : mg "is_whole" = some (.ref (He.ga K "is_whole"))
  g_is_from : mg "is_from" = some (.ref (He.ga K "is_from"))
  g_check_turn : mg "check_turn" = some (.ref (He.ga K "check_turn"))
  g_check_length : mg "check_length" = some (.ref (He.ga K "check_length"))
  m_Drumu__equ_ : Meth K (He.ga K "Drum") "__eq__" (He.ma K (He.ga K "Drum") "__eq__")
  m_Drum_first : Meth K (He.ga K "Drum") "first" (He.ma K (He.ga K "Drum") "first")
  m_Drum_step : Meth K (He.ga K "Drum") "step" (He.ma K (He.ga K "Drum") "step")
  m_Drum_size : Meth K (He.ga K "Drum") "size" (He.ma K (He.ga K "Drum") "size")
  g_parted : mg "parted" = some (.ref (He.ga K "parted"))
  g_alike : mg "alike" = some (.ref (He.ga K "alike"))
  g_known_from : mg "known_from" = some (.ref (He.ga K "known_from"))
  g__check_drum : mg "_check_drum" = some (.ref (He.ga K "_check_drum"))
  g__check_tried : mg "_check_tried" = some (.ref (He.ga K "_check_tried"))
  g__drums_till : mg "_drums_till" = some (.ref (He.ga K "_drums_till"))
  g__least_above : mg "_least_above" = some (.ref (He.ga K "_least_above"))
  g__least_from : mg "_least_from" = some (.ref (He.ga K "_least_from"))
  g__turned : mg "_turned" = some (.ref (He.ga K "_turned"))
  g__law_source_of : mg "_law_source_of" = some (.ref (He.ga K "_law_source_of"))
  g__law_next : mg "_law_next" = some (.ref (He.ga K "_law_next"))
  g__law_cell_at : mg "_law_cell_at" = some (.ref (He.ga K "_law_cell_at"))
  g__law_turns : mg "_law_turns" = some (.ref (He.ga K "_law_turns"))
  g__law_under : mg "_law_under" = some (.ref (He.ga K "_law_under"))
  g_law : mg "law" = some (.ref (He.ga K "law"))
  g_Drum : mg "Drum" = some (.ref (He.ga K "Drum"))
  cl_Drum : Cls K (He.ga K "Drum")
  mk_Drum : Mk K (He.ga K "Drum") (He.ma K (He.ga K "Drum") "__init__")
  n_first : NoAttr K (He.ga K "Drum") "_first"
  n_step : NoAttr K (He.ga K "Drum") "_step"
  z_bool : mg "bool" = none
  z_enumerate : mg "enumerate" = none
  z_int : mg "int" = none
  z_isinstance : mg "isinstance" = none
  z_len : mg "len" = none
  z_max : mg "max" = none
  z_min : mg "min" = none
  z_range : mg "range" = none
  z_sorted : mg "sorted" = none
  c_TOO_GREAT : ∃ t, mg "TOO_GREAT" = some (.int 1000000000000000 t)
  c_MOST_TRIED : ∃ t, mg "MOST_TRIED" = some (.int 100 t)
  w_Drum : PySem.W.findIn K (.ref (He.ga K "Drum")) "__ne__" = some (some (.builtin "object.__ne__")) ∧ PySem.W.mroIn K (He.ga K "Drum") (.type "object") = some true
  x_Drum : C8.InsC K (He.ga K "Drum")
  f_is_whole : ∃ fd, FunD K d_is_whole.name d_is_whole.qual d_is_whole.params d_is_whole.body d_is_whole.scope (d_is_whole.dvs K) (d_is_whole.kws K) (He.fAd K d_is_whole.at_) fd
  k_is_whole : PySem.W.keepIn K (.ref (He.ga K "is_whole")) = true
  f_is_from : ∃ fd, FunD K d_is_from.name d_is_from.qual d_is_from.params d_is_from.body d_is_from.scope (d_is_from.dvs K) (d_is_from.kws K) (He.fAd K d_is_from.at_) fd
  k_is_from : PySem.W.keepIn K (.ref (He.ga K "is_from")) = true
  f_check_turn : ∃ fd, FunD K d_check_turn.name d_check_turn.qual d_check_turn.params d_check_turn.body d_check_turn.scope (d_check_turn.dvs K) (d_check_turn.kws K) (He.fAd K d_check_turn.at_) fd
  k_check_turn : PySem.W.keepIn K (.ref (He.ga K "check_turn")) = true
  f_check_length : ∃ fd, FunD K d_check_length.name d_check_length.qual d_check_length.params d_check_length.body d_check_length.scope (d_check_length.dvs K) (d_check_length.kws K) (He.fAd K d_check_length.at_) fd
  k_check_length : PySem.W.keepIn K (.ref (He.ga K "check_length")) = true
  f_Drumu__initu_ : ∃ fd, FunD K d_Drumu__initu_.name d_Drumu__initu_.qual d_Drumu__initu_.params d_Drumu__initu_.body d_Drumu__initu_.scope (d_Drumu__initu_.dvs K) (d_Drumu__initu_.kws K) (He.fAd K d_Drumu__initu_.at_) fd
  f_Drumu__equ_ : ∃ fd, FunD K d_Drumu__equ_.name d_Drumu__equ_.qual d_Drumu__equ_.params d_Drumu__equ_.body d_Drumu__equ_.scope (d_Drumu__equ_.dvs K) (d_Drumu__equ_.kws K) (He.fAd K d_Drumu__equ_.at_) fd
  f_Drum_first : ∃ fd, FunD K d_Drum_first.name d_Drum_first.qual d_Drum_first.params d_Drum_first.body d_Drum_first.scope (d_Drum_first.dvs K) (d_Drum_first.kws K) (He.fAd K d_Drum_first.at_) fd
  f_Drum_step : ∃ fd, FunD K d_Drum_step.name d_Drum_step.qual d_Drum_step.params d_Drum_step.body d_Drum_step.scope (d_Drum_step.dvs K) (d_Drum_step.kws K) (He.fAd K d_Drum_step.at_) fd
  f_Drum_size : ∃ fd, FunD K d_Drum_size.name d_Drum_size.qual d_Drum_size.params d_Drum_size.body d_Drum_size.scope (d_Drum_size.dvs K) (d_Drum_size.kws K) (He.fAd K d_Drum_size.at_) fd
  f_parted : ∃ fd, FunD K d_parted.name d_parted.qual d_parted.params d_parted.body d_parted.scope (d_parted.dvs K) (d_parted.kws K) (He.fAd K d_parted.at_) fd
  k_parted : PySem.W.keepIn K (.ref (He.ga K "parted")) = true
  f_alike : ∃ fd, FunD K d_alike.name d_alike.qual d_alike.params d_alike.body d_alike.scope (d_alike.dvs K) (d_alike.kws K) (He.fAd K d_alike.at_) fd
  k_alike : PySem.W.keepIn K (.ref (He.ga K "alike")) = true
  f_known_from : ∃ fd, FunD K d_known_from.name d_known_from.qual d_known_from.params d_known_from.body d_known_from.scope (d_known_from.dvs K) (d_known_from.kws K) (He.fAd K d_known_from.at_) fd
  k_known_from : PySem.W.keepIn K (.ref (He.ga K "known_from")) = true
  f__check_drum : ∃ fd, FunD K d__check_drum.name d__check_drum.qual d__check_drum.params d__check_drum.body d__check_drum.scope (d__check_drum.dvs K) (d__check_drum.kws K) (He.fAd K d__check_drum.at_) fd
  k__check_drum : PySem.W.keepIn K (.ref (He.ga K "_check_drum")) = true
  f__check_tried : ∃ fd, FunD K d__check_tried.name d__check_tried.qual d__check_tried.params d__check_tried.body d__check_tried.scope (d__check_tried.dvs K) (d__check_tried.kws K) (He.fAd K d__check_tried.at_) fd
  k__check_tried : PySem.W.keepIn K (.ref (He.ga K "_check_tried")) = true
  f__drums_till : ∃ fd, FunD K d__drums_till.name d__drums_till.qual d__drums_till.params d__drums_till.body d__drums_till.scope (d__drums_till.dvs K) (d__drums_till.kws K) (He.fAd K d__drums_till.at_) fd
  k__drums_till : PySem.W.keepIn K (.ref (He.ga K "_drums_till")) = true
  f__least_above : ∃ fd, FunD K d__least_above.name d__least_above.qual d__least_above.params d__least_above.body d__least_above.scope (d__least_above.dvs K) (d__least_above.kws K) (He.fAd K d__least_above.at_) fd
  k__least_above : PySem.W.keepIn K (.ref (He.ga K "_least_above")) = true
  f__least_from : ∃ fd, FunD K d__least_from.name d__least_from.qual d__least_from.params d__least_from.body d__least_from.scope (d__least_from.dvs K) (d__least_from.kws K) (He.fAd K d__least_from.at_) fd
  k__least_from : PySem.W.keepIn K (.ref (He.ga K "_least_from")) = true
  f__turned : ∃ fd, FunD K d__turned.name d__turned.qual d__turned.params d__turned.body d__turned.scope (d__turned.dvs K) (d__turned.kws K) (He.fAd K d__turned.at_) fd
  k__turned : PySem.W.keepIn K (.ref (He.ga K "_turned")) = true
  f__law_source_of : ∃ fd, FunD K d__law_source_of.name d__law_source_of.qual d__law_source_of.params d__law_source_of.body d__law_source_of.scope (d__law_source_of.dvs K) (d__law_source_of.kws K) (He.fAd K d__law_source_of.at_) fd
  k__law_source_of : PySem.W.keepIn K (.ref (He.ga K "_law_source_of")) = true
  f__law_next : ∃ fd, FunD K d__law_next.name d__law_next.qual d__law_next.params d__law_next.body d__law_next.scope (d__law_next.dvs K) (d__law_next.kws K) (He.fAd K d__law_next.at_) fd
  k__law_next : PySem.W.keepIn K (.ref (He.ga K "_law_next")) = true
  f__law_cell_at : ∃ fd, FunD K d__law_cell_at.name d__law_cell_at.qual d__law_cell_at.params d__law_cell_at.body d__law_cell_at.scope (d__law_cell_at.dvs K) (d__law_cell_at.kws K) (He.fAd K d__law_cell_at.at_) fd
  k__law_cell_at : PySem.W.keepIn K (.ref (He.ga K "_law_cell_at")) = true
  f__law_turns : ∃ fd, FunD K d__law_turns.name d__law_turns.qual d__law_turns.params d__law_turns.body d__law_turns.scope (d__law_turns.dvs K) (d__law_turns.kws K) (He.fAd K d__law_turns.at_) fd
  k__law_turns : PySem.W.keepIn K (.ref (He.ga K "_law_turns")) = true
  f__law_under : ∃ fd, FunD K d__law_under.name d__law_under.qual d__law_under.params d__law_under.body d__law_under.scope (d__law_under.dvs K) (d__law_under.kws K) (He.fAd K d__law_under.at_) fd
  k__law_under : PySem.W.keepIn K (.ref (He.ga K "_law_under")) = true
  f_law : ∃ fd, FunD K d_law.name d_law.qual d_law.params d_law.body d_law.scope (d_law.dvs K) (d_law.kws K) (He.fAd K d_law.at_) fd
  k_law : PySem.W.keepIn K (.ref (He.ga K "law")) = true
theorem txt {K : PySem.W.Frag} {h : Heap} {mg : Str → Option Value} (X : K.In h) (G : h.Ns mainGlobals mg) (c : He.SaysD fa fn K) (b : ∀ q ∈ bi, bfn K q = true) (x : ex K = true) : Txt K mg where
  g_is_whole := He.glo_ok X G (c.fact 0 (f := .glo "is_whole") rfl)
  g_is_from := He.glo_ok X G (c.fact 1 (f := .glo "is_from") rfl)
  g_check_turn := He.glo_ok X G (c.fact 2 (f := .glo "check_turn") rfl)
  g_check_length := He.glo_ok X G (c.fact 3 (f := .glo "check_length") rfl)
  m_Drumu__equ_ := He.meth_ok (c.fact 4 (f := .meth "Drum" "__eq__") rfl)
  m_Drum_first := He.meth_ok (c.fact 5 (f := .meth "Drum" "first") rfl)
  m_Drum_step := He.meth_ok (c.fact 6 (f := .meth "Drum" "step") rfl)
  m_Drum_size := He.meth_ok (c.fact 7 (f := .meth "Drum" "size") rfl)
  g_parted := He.glo_ok X G (c.fact 8 (f := .glo "parted") rfl)
  g_alike := He.glo_ok X G (c.fact 9 (f := .glo "alike") rfl)
  g_known_from := He.glo_ok X G (c.fact 10 (f := .glo "known_from") rfl)
  g__check_drum := He.glo_ok X G (c.fact 11 (f := .glo "_check_drum") rfl)
  g__check_tried := He.glo_ok X G (c.fact 12 (f := .glo "_check_tried") rfl)
  g__drums_till := He.glo_ok X G (c.fact 13 (f := .glo "_drums_till") rfl)
  g__least_above := He.glo_ok X G (c.fact 14 (f := .glo "_least_above") rfl)
  g__least_from := He.glo_ok X G (c.fact 15 (f := .glo "_least_from") rfl)
  g__turned := He.glo_ok X G (c.fact 16 (f := .glo "_turned") rfl)
  g__law_source_of := He.glo_ok X G (c.fact 17 (f := .glo "_law_source_of") rfl)
  g__law_next := He.glo_ok X G (c.fact 18 (f := .glo "_law_next") rfl)
  g__law_cell_at := He.glo_ok X G (c.fact 19 (f := .glo "_law_cell_at") rfl)
  g__law_turns := He.glo_ok X G (c.fact 20 (f := .glo "_law_turns") rfl)
  g__law_under := He.glo_ok X G (c.fact 21 (f := .glo "_law_under") rfl)
  g_law := He.glo_ok X G (c.fact 22 (f := .glo "law") rfl)
  g_Drum := He.glo_ok X G (c.fact 23 (f := .glo "Drum") rfl)
  cl_Drum := He.cls_ok (c.fact 24 (f := .cls "Drum") rfl)
  mk_Drum := He.mkr_ok (c.fact 25 (f := .mkr "Drum") rfl)
  n_first := He.noat_ok (c.fact 26 (f := .noat "Drum" "_first") rfl)
  n_step := He.noat_ok (c.fact 27 (f := .noat "Drum" "_step") rfl)
  z_bool := He.free_ok X G (c.fact 28 (f := .free "bool") rfl)
  z_enumerate := He.free_ok X G (c.fact 29 (f := .free "enumerate") rfl)
  z_int := He.free_ok X G (c.fact 30 (f := .free "int") rfl)
  z_isinstance := He.free_ok X G (c.fact 31 (f := .free "isinstance") rfl)
  z_len := He.free_ok X G (c.fact 32 (f := .free "len") rfl)
  z_max := He.free_ok X G (c.fact 33 (f := .free "max") rfl)
  z_min := He.free_ok X G (c.fact 34 (f := .free "min") rfl)
  z_range := He.free_ok X G (c.fact 35 (f := .free "range") rfl)
  z_sorted := He.free_ok X G (c.fact 36 (f := .free "sorted") rfl)
  c_TOO_GREAT := He.int_ok X G (c.fact 37 (f := .int "TOO_GREAT" 1000000000000000) rfl)
  c_MOST_TRIED := He.int_ok X G (c.fact 38 (f := .int "MOST_TRIED" 100) rfl)
  w_Drum := of_decide_eq_true (He.ba x).1
  x_Drum := insB_ok (He.cls_ok (c.fact 24 (f := .cls "Drum") rfl)) (He.ba x).2
  f_is_whole := c.def_ 0 (d := d_is_whole) rfl
  k_is_whole := (c.def_ 0 (d := d_is_whole) rfl).elim fun _ F => F.kp
  f_is_from := c.def_ 1 (d := d_is_from) rfl
  k_is_from := (c.def_ 1 (d := d_is_from) rfl).elim fun _ F => F.kp
  f_check_turn := c.def_ 2 (d := d_check_turn) rfl
  k_check_turn := (c.def_ 2 (d := d_check_turn) rfl).elim fun _ F => F.kp
  f_check_length := c.def_ 3 (d := d_check_length) rfl
  k_check_length := (c.def_ 3 (d := d_check_length) rfl).elim fun _ F => F.kp
  f_Drumu__initu_ := c.def_ 4 (d := d_Drumu__initu_) rfl
  f_Drumu__equ_ := c.def_ 5 (d := d_Drumu__equ_) rfl
  f_Drum_first := c.def_ 6 (d := d_Drum_first) rfl
  f_Drum_step := c.def_ 7 (d := d_Drum_step) rfl
  f_Drum_size := c.def_ 8 (d := d_Drum_size) rfl
  f_parted := c.def_ 9 (d := d_parted) rfl
  k_parted := (c.def_ 9 (d := d_parted) rfl).elim fun _ F => F.kp
  f_alike := c.def_ 10 (d := d_alike) rfl
  k_alike := (c.def_ 10 (d := d_alike) rfl).elim fun _ F => F.kp
  f_known_from := c.def_ 11 (d := d_known_from) rfl
  k_known_from := (c.def_ 11 (d := d_known_from) rfl).elim fun _ F => F.kp
  f__check_drum := c.def_ 12 (d := d__check_drum) rfl
  k__check_drum := (c.def_ 12 (d := d__check_drum) rfl).elim fun _ F => F.kp
  f__check_tried := c.def_ 13 (d := d__check_tried) rfl
  k__check_tried := (c.def_ 13 (d := d__check_tried) rfl).elim fun _ F => F.kp
  f__drums_till := c.def_ 14 (d := d__drums_till) rfl
  k__drums_till := (c.def_ 14 (d := d__drums_till) rfl).elim fun _ F => F.kp
  f__least_above := c.def_ 15 (d := d__least_above) rfl
  k__least_above := (c.def_ 15 (d := d__least_above) rfl).elim fun _ F => F.kp
  f__least_from := c.def_ 16 (d := d__least_from) rfl
  k__least_from := (c.def_ 16 (d := d__least_from) rfl).elim fun _ F => F.kp
  f__turned := c.def_ 17 (d := d__turned) rfl
  k__turned := (c.def_ 17 (d := d__turned) rfl).elim fun _ F => F.kp
  f__law_source_of := c.def_ 18 (d := d__law_source_of) rfl
  k__law_source_of := (c.def_ 18 (d := d__law_source_of) rfl).elim fun _ F => F.kp
  f__law_next := c.def_ 19 (d := d__law_next) rfl
  k__law_next := (c.def_ 19 (d := d__law_next) rfl).elim fun _ F => F.kp
  f__law_cell_at := c.def_ 20 (d := d__law_cell_at) rfl
  k__law_cell_at := (c.def_ 20 (d := d__law_cell_at) rfl).elim fun _ F => F.kp
  f__law_turns := c.def_ 21 (d := d__law_turns) rfl
  k__law_turns := (c.def_ 21 (d := d__law_turns) rfl).elim fun _ F => F.kp
  f__law_under := c.def_ 22 (d := d__law_under) rfl
  k__law_under := (c.def_ 22 (d := d__law_under) rfl).elim fun _ F => F.kp
  f_law := c.def_ 23 (d := d_law) rfl
  k_law := (c.def_ 23 (d := d_law) rfl).elim fun _ F => F.kp
abbrev hk : PySem.W.Hook := hookC 5 fa fn bi ex
def ob (s : PySem.W.SharedT) : He.AlD × Bool := obsCG 5 fa fn bi ex (HandSHeadRun.getT s)
theorem ob_eq (s : PySem.W.SharedT) : ob s = hk.obs s.abs := obsCG_eq (HandSHeadRun.getT_eq s)
def loose : List Str := [("_wall" : Str), ("WetError" : Str), ("BadDrum" : Str), ("NoTurn" : Str), ("NoCell" : Str), ("is_whole" : Str), ("is_from" : Str), ("check_turn" : Str), ("check_length" : Str), ("TOO_GREAT" : Str), ("Drum" : Str), ("MOST_TRIED" : Str), ("parted" : Str), ("alike" : Str), ("known_from" : Str), ("_check_drum" : Str), ("_check_tried" : Str), ("_drums_till" : Str), ("_least_above" : Str), ("_least_from" : Str), ("_turned" : Str), ("_law_source_of" : Str), ("_law_next" : Str), ("_law_cell_at" : Str), ("_law_turns" : Str), ("_law_under" : Str)]
theorem run (w : World) : HandSHeadRun.RunEqI R (PySem.W.view R.prog [32]) hk ob 6000 loose w := by
  unfold HandSHeadRun.RunEqI
  kernel_rfl
end Wm
namespace Wm
open PySem PySem.Spec PyProof.Rows L2

theorem x_cut80 {t u : TS} {D : Ends} {σ : L2.St} {H : Hp} (Mid : L2.St → Hp → Prop) (h1 : t { D with nx := Mid } σ H) (h2 : ∀ σ' H', Mid σ' H' → u D σ' H') : C8.tCut t u D σ H := ⟨Mid, h1, h2⟩

local macro_rules | `(tactic| walk_at "bd") => `(tactic| (repeat (first
  | with_reducible assumption
  | exact Drm.bf (by assumption)
  | exact Drm.bs (by assumption)
  | exact Bd.lit8 (by decide)
  | exact Bd.lit (by decide)
  | with_reducible apply Bd.add
  | with_reducible apply Bd.sub
  | with_reducible apply Bd.mul
  | with_reducible apply Bd.div
  | decide)))
local macro_rules | `(tactic| walk_at "bdm") => `(tactic| (first | with_reducible assumption | (apply Bd.mono; (walk_at "bd"))))
local macro_rules | `(tactic| walk_at "cm") => `(tactic| (apply cm; (walk_at "bd")))
local macro_rules | `(tactic| walk_at "cd") => `(tactic| (apply cd; (first | omega | exact (Drm.f1 (by assumption)) | skip); (walk_at "bd")))
local macro_rules | `(tactic| walk_at "drm") => `(tactic| (repeat (first
  | with_reducible assumption
  | ((with_reducible apply Drm.same); (with_reducible assumption))
  | ((with_reducible apply Drm.upd); (with_reducible assumption))
  | ((with_reducible apply Drm.but); (with_reducible assumption); (case' hs => walk_at "src")))))
local macro_rules | `(tactic| walk_at "src") => `(tactic| (repeat (first
  | with_reducible assumption
  | ((with_reducible apply Src.same); (with_reducible assumption))
  | ((with_reducible apply Src.upd); (with_reducible assumption)))))
local macro_rules | `(tactic| walk_at "at") => `(tactic| (repeat (first
  | with_reducible assumption
  | exact upd_same
  | ((with_reducible apply at_same); (with_reducible assumption))
  | ((with_reducible apply at_upd); (with_reducible assumption))
  | ((with_reducible apply tup_but); (with_reducible assumption); (case' hs => walk_at "src"))
  | ((with_reducible apply at_but); (with_reducible assumption); (with_reducible assumption)))))
local macro_rules | `(tactic| walk_at "rd1") => `(tactic| (first
  | with_reducible refine x_seq ?_
  | with_reducible refine x_asg ?_
  | ((with_reducible refine' x_set ?e0 ?_); (case e0 => (dsimp only [List.set])))
  | ((with_reducible refine' x_var ?e0 ?_); (case e0 => exact rfl))
  | with_reducible refine x_c ?_
  | with_reducible refine x_op ?_
  | with_reducible refine x_un ?_
  | with_reducible refine x_rI0 ?_
  | with_reducible refine x_rEqI ?_
  | with_reducible refine x_rNeI ?_
  | with_reducible refine x_rU ?_
  | with_reducible refine x_drop ?_
  | with_reducible refine x_ret ?_
  | with_reducible refine x_retN ?_
  | with_reducible refine x_next ?_
  | with_reducible refine x_ifS ?_
  | with_reducible refine x_test ?_
  | with_reducible refine x_B ?_
  | with_reducible refine x_asB ?_
  | with_reducible refine x_not ?_
  | with_reducible refine x_and ?_
  | with_reducible refine x_or ?_
  | with_reducible refine x_andV ?_
  | with_reducible refine x_orV ?_
  | with_reducible refine x_notV ?_
  | with_reducible refine x_tIf ?_
  | with_reducible refine x_chain ?_
  | with_reducible refine x_chK ?_
  | with_reducible refine x_nil ?_
  | with_reducible refine x_cons ?_
  | with_reducible refine x_cb ?_
  | with_reducible refine x_call ?_
  | with_reducible refine x_meth ?_
  | with_reducible refine x_fld ?_
  | with_reducible refine x_make ?_
  | with_reducible refine x_tup ?_
  | with_reducible refine x_lst ?_
  | with_reducible refine x_gSub ?_
  | (with_reducible refine x_gNil ?_)
  | (with_reducible refine x_gCons ?_)
  | ((with_reducible refine' x_gTup ?e0 ?e1 ?_); (case e0 => (walk_at "at")); (case e1 => rfl))
  | ((with_reducible refine' x_fst ?c0 ?c1 ?e0 ?_); (case c0 => exact Txt.cl_Drum (by assumption)); (case c1 => exact Txt.n_first (by assumption)); (case e0 => (walk_at "drm")))
  | ((with_reducible refine' x_stp ?c0 ?c1 ?e0 ?_); (case c0 => exact Txt.cl_Drum (by assumption)); (case c1 => exact Txt.n_step (by assumption)); (case e0 => (walk_at "drm")))
  | ((with_reducible refine' x_methD ?e0 ?e1 ?_); (case e0 => (walk_at "drm")); (case e1 => first | exact nm_where | exact nm_size | exact nm_begins | exact nm_turn_of | exact nm_first | exact nm_step | exact nm_cell_at | exact nm_filled))
  | ((with_reducible refine' x_size ?e0 ?_); (case e0 => exact Nat.le_of_ble_eq_true rfl))
  | ((with_reducible refine' x_rI (C := CMulW) ?e0 ?_); (case e0 => walk_at "cm"))
  | ((with_reducible refine' x_rI (C := CDivW) ?e0 ?_); (case e0 => walk_at "cd"))
  | ((with_reducible refine' x_rI (C := CPow) ?e0 ?_); (case e0 => exact ⟨by decide, by decide, by decide⟩))
  | ((with_reducible refine' x_rI (C := fun _ j => j ≠ 0) ?e0 ?_); (case e0 => (show (_ : Int) ≠ 0); omega))
  | ((with_reducible refine' x_ixL ?e0 ?e1 ?_); (case e0 => exact sql (by walk_at "at")); (case e1 => rfl))
  | ((with_reducible refine' x_ixT ?e0 ?e1 ?_); (case e0 => (walk_at "at")); (case e1 => rfl))
  | ((with_reducible refine' x_lenL ?e0 ?_); (case e0 => first | assumption | exact sql (by walk_at "at")))
  | ((with_reducible refine' x_lenT ?e0 ?_); (case e0 => (walk_at "at")))
  | with_reducible refine x_max ?_
  | with_reducible refine x_min ?_
  | with_reducible refine x_intB ?_
  | with_reducible refine x_parK ?_
  | with_reducible refine x_parK3 ?_
  | ((with_reducible refine' x_par3 ?e0 ?_); (case e0 => (dsimp only [List.set])))
  | ((with_reducible refine' x_par2 ?e0 ?_); (case e0 => (dsimp only [List.set])))
  | with_reducible refine x_methN ?_
  | ((with_reducible refine' x_methND ?e0 ?e1 ?_); (case e0 => (walk_at "drm")); (case e1 => first | exact nm_where | exact nm_size | exact nm_begins | exact nm_turn_of | exact nm_first | exact nm_step | exact nm_cell_at | exact nm_filled))
  | ((with_reducible refine' x_len1 ?e0 ?_); (case e0 => rfl); dsimp only [List.cons_append, List.nil_append])
  | ((with_reducible refine' y_law_begins ?e0 ?e1 ?e2 ?_); (case e0 => walk_at "bdm"); (case e1 => walk_at "bdm"); (case e2 => walk_at "bdm"))
  | with_reducible refine x_for1 ?_
  | with_reducible refine x_forW ?_
  | with_reducible refine x_asRW ?_
  | ((with_reducible refine' x_asR1 ?e0 ?e1 ?_); (case e0 => omega); (case e1 => omega))
  | with_reducible refine x_bm ?_
  | ((with_reducible refine' x_bmL ?e0 ?_); (case e0 => first | assumption | exact sql (by walk_at "at")))
  | ((with_reducible refine' x_cat ?e0 ?e1 ?e2 ?_); (case e0 => walk_at "at"); (case e1 => walk_at "at"); (case e2 => exact Nat.le_trans (Nat.le_of_ble_eq_true (m := 1000) rfl) (by decide)))
  | ((with_reducible refine' x_cut2 ?e0 ?_); (case e0 => walk_at "at"))
  | ((with_reducible refine' x_neT3 ?e0 ?e1 ?_); (case e0 => walk_at "at"); (case e1 => walk_at "at"))
  | ((with_reducible refine' x_neT2 ?e0 ?e1 ?_); (case e0 => walk_at "at"); (case e1 => walk_at "at"))
  | ((with_reducible refine' x_eqT3 ?e0 ?e1 ?_); (case e0 => walk_at "at"); (case e1 => walk_at "at"))
  | ((with_reducible refine' x_eqT2 ?e0 ?e1 ?_); (case e0 => walk_at "at"); (case e1 => walk_at "at"))
  | with_reducible refine x_isN0 ?_
  | with_reducible refine x_isN1 ?_
  | with_reducible refine x_isN2 ?_
  | with_reducible refine x_notN0 ?_
  | with_reducible refine x_notN1 ?_
  | with_reducible refine x_notN2 ?_
  | with_reducible refine x_sl ?_
  | with_reducible refine x_noPart ?_
  | with_reducible refine x_part ?_
  | with_reducible refine x_asI ?_
  | with_reducible refine x_for ?_
  | with_reducible refine y_whole ?_
  | with_reducible refine y_from ?_
  | ((with_reducible refine' y_below ?e0 ?_); (case e0 => omega))
  | ((with_reducible refine' y_cturn ?e0 ?_); (case e0 => omega))
  | ((with_reducible refine' y_ccell ?e0 ?_); (case e0 => omega))
  | ((with_reducible refine' y_clen ?e0 ?_); (case e0 => omega))
  | ((with_reducible refine' y_cbelow ?e0 ?e1 ?_); (case e0 => omega); (case e1 => omega))
  | ((with_reducible refine' y_cbeats ?e0 ?_); (case e0 => omega))
  | ((with_reducible refine' y_cplace ?e0 ?e1 ?_); (case e0 => omega); (case e1 => omega))
  | ((with_reducible refine' y_first ?e0 ?_); (case e0 => walk_at "drm"))
  | ((with_reducible refine' y_step ?e0 ?_); (case e0 => walk_at "drm"))
  | ((with_reducible refine' y_size ?e0 ?e1 ?e2 ?_); (case e0 => (walk_at "drm")); (case e1 => omega); (case e2 => omega))
  | ((with_reducible refine' y_begins ?e0 ?e1 ?e2 ?_); (case e0 => (walk_at "drm")); (case e1 => omega); (case e2 => omega))
  | ((with_reducible refine' y_turn_of ?e0 ?e1 ?e2 ?_); (case e0 => (walk_at "drm")); (case e1 => omega); (case e2 => omega))
  | with_reducible refine x_t ?_
  | with_reducible refine x_f ?_
  | with_reducible refine x_nt ?_
  | with_reducible refine x_nf ?_
  | ((with_reducible refine' x_iteT ?e0 ?_); (case e0 => omega))
  | ((with_reducible refine' x_iteF ?e0 ?_); (case e0 => omega))
  | ((with_reducible refine' x_iteNF ?e0 ?_); (case e0 => omega))
  | ((with_reducible refine' x_iteNT ?e0 ?_); (case e0 => omega))))
local macro_rules | `(tactic| walk_at "len") => `(tactic| exact Nat.le_of_ble_eq_true rfl)
local macro_rules | `(tactic| walk_at "mem") => `(tactic| (simp only [List.mem_cons, List.not_mem_nil, or_false] at *))
local macro_rules | `(tactic| walk_at "rd") => `(tactic| (repeat (walk_at "rd1")))

local macro_rules | `(tactic| walk_at "rd1") => `(tactic| (first
  | with_reducible refine x_lc ?_
  | with_reducible refine x_lcW ?_
  | with_reducible refine x_lc1 ?_
  | with_reducible refine x_yes ?_
  | with_reducible refine x_forEn ?_
  | with_reducible refine x_orT ?_
  | ((with_reducible refine' x_wp ?e0 ?_); (case e0 => rfl))))

local macro_rules | `(tactic| walk_at "rd1") => `(tactic| (first
  | with_reducible refine x_lc2W ?_
  | with_reducible refine x_i1 ?_
  | with_reducible refine x_cKw ?_))
theorem sc__law_cell_at : FnScope ["_law_script", "_law_k"] ["_law_script", "_law_k"] (defScope s__law_cell_at) := ⟨rfl, rfl, rfl, by decide +kernel, rfl, by decide +kernel, by decide +kernel⟩
theorem ok__law_cell_at {P : Program} {w : World} {K : PySem.W.Frag} {mg : Str → Option Value} {base : Heap} (T : Txt K mg) : ∃ fd, FnOk P w K mg base CX0 1 (He.ga K "_law_cell_at") fd ["_law_script", "_law_k"] (sp__law_cell_at K) ∧ Binds K fd ["_law_script", "_law_k"] [] ∧ FunD K d__law_cell_at.name d__law_cell_at.qual d__law_cell_at.params d__law_cell_at.body d__law_cell_at.scope (d__law_cell_at.dvs K) (d__law_cell_at.kws K) (He.fAd K d__law_cell_at.at_) fd := by
  obtain ⟨fd, F⟩ := T.f__law_cell_at
  refine ⟨fd, ?_, F.bindsN fun _ _ _ _ _ _ us hl => match us, hl with | [_, _], _ => rfl, F⟩
  refine F.ok (k := 0) sc__law_cell_at (fun vs H Q E h => ?_) (fun cdv A outer s H vs Q E hr h => ?_)
  · obtain ⟨a, ns, c, rfl, _⟩ := h
    rfl
  · obtain ⟨a, ns, c, rfl, hs, hl, c0, k⟩ := h
    refine ⟨_, PSs.nox (pss_cons (ps_if (pt_cmpR op_lt (pv 1) (pe_callB cl_len (by rfl) T.z_len (by decide +kernel) (pa_cons (pv 0) pa_nil)) (nomark _)) (pss_one (ps_ret (pe_ix ix_list (pv 0) (pv 1) (fun _ _ => rfl)))) pss_nil)
      (pss_one (ps_ret pe_int))), ?_⟩
    show (_ : TS) _ [some (.ref a), some (.int c)] _
    try dsimp only [nk]
    walk_at "rd"
    refine x_ite (fun g => ?_) (fun g => ?_)
    · walk_at "rd"
      obtain ⟨v, hv, ev⟩ := atI_in c0 g
      obtain ⟨z, _, rfl⟩ := List.mem_map.mp hv
      refine x_ixL hs ev ?_
      exact k z
    · walk_at "rd"
      exact k 0
theorem sc_is_whole : FnScope ["thing"] ["thing"] (defScope s_is_whole) := ⟨rfl, rfl, rfl, by decide +kernel, rfl, by decide +kernel, by decide +kernel⟩
theorem ok_is_whole {P : Program} {w : World} {K : PySem.W.Frag} {mg : Str → Option Value} {base : Heap} (T : Txt K mg) : ∃ fd, FnOk P w K mg base CX0 1 (He.ga K "is_whole") fd ["thing"] sp_is_whole ∧ Binds K fd ["thing"] [] ∧ FunD K d_is_whole.name d_is_whole.qual d_is_whole.params d_is_whole.body d_is_whole.scope (d_is_whole.dvs K) (d_is_whole.kws K) (He.fAd K d_is_whole.at_) fd := by
  obtain ⟨fd, F⟩ := T.f_is_whole
  refine ⟨fd, ?_, F.bindsN fun _ _ _ _ _ _ us hl => match us, hl with | [_], _ => rfl, F⟩
  refine F.ok (k := 0) sc_is_whole (fun vs H Q E h => ?_) (fun cdv A outer s H vs Q E hr h => ?_)
  · obtain ⟨n, rfl, _⟩ := h
    rfl
  · obtain ⟨n, rfl, k⟩ := h
    refine ⟨_, PSs.nox (pss_one (ps_ret (pe_and (pe_callB call_isi (by rfl) T.z_isinstance (by decide +kernel) (pa_cons (pv 0) (pa_cons (pe_bltn (v := .ty "int") (by rfl) T.z_int (by decide +kernel) rfl) pa_nil))) (pe_one (pe_not (pe_callB call_isi (by rfl) T.z_isinstance (by decide +kernel) (pa_cons (pv 0) (pa_cons (pe_bltn (v := .ty "bool") (by rfl) T.z_bool (by decide +kernel) rfl) pa_nil)))))))), ?_⟩
    show (_ : TS) _ [some (.int n)] _
    try dsimp only [nk]
    walk_at "rd"
    refine x_isi (T := "int") (b := true) (by decide +kernel) ?_
    walk_at "rd"
    refine x_isi (T := "bool") (b := false) (by decide +kernel) ?_
    walk_at "rd"
    exact k
theorem sc__turned : FnScope ["fraction", "whole", "top", "bottom"] ["fraction", "whole"] (defScope s__turned) := ⟨rfl, rfl, rfl, by decide +kernel, rfl, by decide +kernel, by decide +kernel⟩
theorem ok__turned {P : Program} {w : World} {K : PySem.W.Frag} {mg : Str → Option Value} {base : Heap} (T : Txt K mg) : ∃ fd, FnOk P w K mg base CX0 1 (He.ga K "_turned") fd ["fraction", "whole"] sp__turned ∧ Binds K fd ["fraction", "whole"] [] ∧ FunD K d__turned.name d__turned.qual d__turned.params d__turned.body d__turned.scope (d__turned.dvs K) (d__turned.kws K) (He.fAd K d__turned.at_) fd := by
  obtain ⟨fd, F⟩ := T.f__turned
  refine ⟨fd, ?_, F.bindsN fun _ _ _ _ _ _ us hl => match us, hl with | [_, _], _ => rfl, F⟩
  refine F.ok (k := 0) sc__turned (fun vs H Q E h => ?_) (fun cdv A outer s H vs Q E hr h => ?_)
  · obtain ⟨p, x, y, w, rfl, _⟩ := h
    rfl
  · obtain ⟨p, x, y, w, rfl, e, bw, by', k⟩ := h
    refine ⟨_, PSs.nox (pss_cons (ps_asg (pv 0) (pg_tup rfl (pgs_cons (pg_name (i := 2) sc__turned.nd rfl (Or.inl rfl)) (pgs_cons (pg_name (i := 3) sc__turned.nd rfl (Or.inl rfl)) pgs_nil))))
      (pss_one (ps_ret (pe_tup (pa_cons (pv 3) (pa_cons (pe_op op_sub (pv 2) (pe_op op_mulW (pv 1) (pv 3))) pa_nil)))))), ?_⟩
    show (_ : TS) _ [some (.ref p), some (.int w), none, none] _
    try dsimp only [nk]
    walk_at "rd"
    intro q hq
    exact k q _ (same_upd hq) upd_same
theorem sc_Drum_first : FnScope ["self"] ["self"] (defScope s_Drum_first) := ⟨rfl, rfl, rfl, by decide +kernel, rfl, by decide +kernel, by decide +kernel⟩
theorem ok_Drum_first {P : Program} {w : World} {K : PySem.W.Frag} {mg : Str → Option Value} {base : Heap} (T : Txt K mg) : ∃ fd, FnOk P w K mg base CX0 1 (He.ma K (He.ga K "Drum") "first") fd ["self"] (sp_Drum_first K) ∧ Binds K fd ["self"] [] ∧ FunD K d_Drum_first.name d_Drum_first.qual d_Drum_first.params d_Drum_first.body d_Drum_first.scope (d_Drum_first.dvs K) (d_Drum_first.kws K) (He.fAd K d_Drum_first.at_) fd := by
  obtain ⟨fd, F⟩ := T.f_Drum_first
  refine ⟨fd, ?_, F.bindsN fun _ _ _ _ _ _ us hl => match us, hl with | [_], _ => rfl, F⟩
  refine F.ok (k := 0) sc_Drum_first (fun vs H Q E h => ?_) (fun cdv A outer s H vs Q E hr h => ?_)
  · obtain ⟨p, f, s, rfl, _⟩ := h
    rfl
  · obtain ⟨p, f, s, rfl, d, k⟩ := h
    refine ⟨_, PSs.nox (pss_one (ps_ret (pe_fld (pv 0) rfl))), ?_⟩
    show (_ : TS) _ [some (.ref p)] _
    try dsimp only [nk]
    walk_at "rd"
    exact k
theorem sc_Drumu__equ_ : FnScope ["self", "other"] ["self", "other"] (defScope s_Drumu__equ_) := ⟨rfl, rfl, rfl, by decide +kernel, rfl, by decide +kernel, by decide +kernel⟩
theorem ok_Drumu__equ_ {P : Program} {w : World} {K : PySem.W.Frag} {mg : Str → Option Value} {base : Heap} (T : Txt K mg) : ∃ fd, FnOk P w K mg base CX0 1 (He.ma K (He.ga K "Drum") "__eq__") fd ["self", "other"] (sp_Drumu__equ_ K) ∧ Binds K fd ["self", "other"] [] ∧ FunD K d_Drumu__equ_.name d_Drumu__equ_.qual d_Drumu__equ_.params d_Drumu__equ_.body d_Drumu__equ_.scope (d_Drumu__equ_.dvs K) (d_Drumu__equ_.kws K) (He.fAd K d_Drumu__equ_.at_) fd := by
  obtain ⟨fd, F⟩ := T.f_Drumu__equ_
  refine ⟨fd, ?_, F.bindsN fun _ _ _ _ _ _ us hl => match us, hl with | [_, _], _ => rfl, F⟩
  refine F.ok (k := 0) sc_Drumu__equ_ (fun vs H Q E h => ?_) (fun cdv A outer s H vs Q E hr h => ?_)
  · obtain ⟨p, q, f, s, g, t, rfl, _⟩ := h
    rfl
  · obtain ⟨p, q, f, s, g, t, rfl, d, d', k⟩ := h
    refine ⟨_, PSs.nox (pss_one (ps_ret (pe_and (pe_callB (C8.call_isC T.x_Drum) (by rfl) T.z_isinstance (by decide +kernel) (pa_cons (pv 1) (pa_cons (pe_glob (v := .ref (He.ga K "Drum")) rfl T.g_Drum rfl) pa_nil))) (pe_and (pe_cmpR op_eq (pe_fld (pv 0) rfl) (pe_fld (pv 1) rfl) (nomark _)) (pe_one (pe_cmpR op_eq (pe_fld (pv 0) rfl) (pe_fld (pv 1) rfl) (nomark _))))))), ?_⟩
    show (_ : TS) _ [some (.ref p), some (.ref q)] _
    try dsimp only [nk]
    walk_at "rd"
    refine x_isC d' ?_
    walk_at "rd"
    refine x_ite (p := f = g) (fun c => ?_) (fun c => ?_)
    · walk_at "rd"
      have e : decide (f = g ∧ s = t) = decide (s = t) := by simp [c]
      rw [e] at k
      exact k
    · walk_at "rd"
      have e : decide (f = g ∧ s = t) = false := by simp [c]
      rw [e] at k
      exact k
theorem sc__check_drum : FnScope ["part", "drum"] ["part", "drum"] (defScope s__check_drum) := ⟨rfl, rfl, rfl, by decide +kernel, rfl, by decide +kernel, by decide +kernel⟩
theorem ok__check_drum {P : Program} {w : World} {K : PySem.W.Frag} {mg : Str → Option Value} {base : Heap} (T : Txt K mg) : ∃ fd, FnOk P w K mg base CX0 1 (He.ga K "_check_drum") fd ["part", "drum"] (sp__check_drum K) ∧ Binds K fd ["part", "drum"] [] ∧ FunD K d__check_drum.name d__check_drum.qual d__check_drum.params d__check_drum.body d__check_drum.scope (d__check_drum.dvs K) (d__check_drum.kws K) (He.fAd K d__check_drum.at_) fd := by
  obtain ⟨fd, F⟩ := T.f__check_drum
  refine ⟨fd, ?_, F.bindsN fun _ _ _ _ _ _ us hl => match us, hl with | [_, _], _ => rfl, F⟩
  refine F.ok (k := 0) sc__check_drum (fun vs H Q E h => ?_) (fun cdv A outer s H vs Q E hr h => ?_)
  · obtain ⟨z, p, f, s, rfl, _⟩ := h
    rfl
  · obtain ⟨z, p, f, s, rfl, d, k⟩ := h
    refine ⟨_, PSs.nox (pss_one (ps_if (pt_not (pt_val (pe_callB (C8.call_isC T.x_Drum) (by rfl) T.z_isinstance (by decide +kernel) (pa_cons (pv 1) (pa_cons (pe_glob (v := .ref (He.ga K "Drum")) rfl T.g_Drum rfl) pa_nil))))) (pss_one ps_never) pss_nil)), ?_⟩
    show (_ : TS) _ [some (.str z), some (.ref p)] _
    try dsimp only [nk]
    walk_at "rd"
    refine x_isC d ?_
    walk_at "rd"
    exact k
theorem sc_Drum_step : FnScope ["self"] ["self"] (defScope s_Drum_step) := ⟨rfl, rfl, rfl, by decide +kernel, rfl, by decide +kernel, by decide +kernel⟩
theorem ok_Drum_step {P : Program} {w : World} {K : PySem.W.Frag} {mg : Str → Option Value} {base : Heap} (T : Txt K mg) : ∃ fd, FnOk P w K mg base CX0 1 (He.ma K (He.ga K "Drum") "step") fd ["self"] (sp_Drum_step K) ∧ Binds K fd ["self"] [] ∧ FunD K d_Drum_step.name d_Drum_step.qual d_Drum_step.params d_Drum_step.body d_Drum_step.scope (d_Drum_step.dvs K) (d_Drum_step.kws K) (He.fAd K d_Drum_step.at_) fd := by
  obtain ⟨fd, F⟩ := T.f_Drum_step
  refine ⟨fd, ?_, F.bindsN fun _ _ _ _ _ _ us hl => match us, hl with | [_], _ => rfl, F⟩
  refine F.ok (k := 0) sc_Drum_step (fun vs H Q E h => ?_) (fun cdv A outer s H vs Q E hr h => ?_)
  · obtain ⟨p, f, s, rfl, _⟩ := h
    rfl
  · obtain ⟨p, f, s, rfl, d, k⟩ := h
    refine ⟨_, PSs.nox (pss_one (ps_ret (pe_fld (pv 0) rfl))), ?_⟩
    show (_ : TS) _ [some (.ref p)] _
    try dsimp only [nk]
    walk_at "rd"
    exact k
theorem sc__law_turns : FnScope ["_law_first_here", "_law_step_here", "_law_many", "_law_found", "_law_begin", "_law_size"] ["_law_first_here", "_law_step_here", "_law_many"] (defScope s__law_turns) := ⟨rfl, rfl, rfl, by decide +kernel, rfl, by decide +kernel, by decide +kernel⟩
theorem ok__law_turns {P : Program} {w : World} {K : PySem.W.Frag} {mg : Str → Option Value} {base : Heap} (T : Txt K mg) : ∃ fd, FnOk P w K mg base CX0 1 (He.ga K "_law_turns") fd ["_law_first_here", "_law_step_here", "_law_many"] sp__law_turns ∧ Binds K fd ["_law_first_here", "_law_step_here", "_law_many"] [] ∧ FunD K d__law_turns.name d__law_turns.qual d__law_turns.params d__law_turns.body d__law_turns.scope (d__law_turns.dvs K) (d__law_turns.kws K) (He.fAd K d__law_turns.at_) fd := by
  obtain ⟨fd, F⟩ := T.f__law_turns
  refine ⟨fd, ?_, F.bindsN fun _ _ _ _ _ _ us hl => match us, hl with | [_, _, _], _ => rfl, F⟩
  refine F.ok (k := 0) sc__law_turns (fun vs H Q E h => ?_) (fun cdv A outer s H vs Q E hr h => ?_)
  · obtain ⟨f, s, m, rfl, _⟩ := h
    rfl
  · obtain ⟨f, s, m, rfl, f1, f2, s0, s2, m0, m2, k⟩ := h
    refine ⟨_, PSs.nox (pss_cons (ps_set (i := 3) sc__law_turns.nd rfl (Or.inl rfl) (pe_lst pa_nil))
      (pss_cons (ps_par (i := 4) (j := 5) (by rfl) sc__law_turns.nd rfl rfl (by decide) rfl rfl (pa_cons pe_int (pa_cons (pv 0) pa_nil)) (by rfl))
      (pss_cons (ps_while PassesOwn.never (pt_cmpR op_lt (pe_callB cl_len (by rfl) T.z_len (by decide +kernel) (pa_cons (pv 3) pa_nil)) (pv 2) (nomark _)) (pss_cons (ps_set (i := 3) sc__law_turns.nd rfl (Or.inl rfl) (pe_op op_cat (pv 3) (pe_op op_rep (pe_lst (pa_cons (pe_tup (pa_cons (pv 4) (pa_cons (pv 5) pa_nil))) pa_nil)) (pv 5))))
      (pss_cons (ps_set (i := 4) sc__law_turns.nd rfl (Or.inl rfl) (pe_op op_add (pv 4) (pv 5)))
      (pss_one (ps_set (i := 5) sc__law_turns.nd rfl (Or.inl rfl) (pe_op op_add (pv 5) (pv 1)))))))
      (pss_one (ps_ret (pe_slice sl_list (pv 3) po_none (po_some (pv 2)))))))), ?_⟩
    show (_ : TS) _ [some (.int f), some (.int s), some (.int m), none, none, none] _
    try dsimp only [nk]
    walk_at "rd"
    intro p0 hp0
    walk_at "rd"
    refine x_while (fun σ H' => Same H H' ∧ ∃ (p : Addr) (t : Int) (xs : List V), σ = [some (.int f), some (.int s), some (.int m), some (.ref p), some (.int (Bg f s t)), some (.int (f + t * s))] ∧ 0 ≤ t ∧ H' p = some (.lst xs) ∧ (xs.length : Int) = Bg f s t ∧ TrA H' f s xs ∧ (t = 0 ∨ Bg f s (t - 1) < m)) (fun σ => (m - sI 4 σ).toNat)
      ⟨same_upd hp0, p0, 0, [], by simp [bg_nul'], by decide, upd_same, by rw [bg_nul']; rfl, fun k x hx => by simp at hx, .inl rfl⟩ ?_
    rintro σ H1 ⟨s1, p, t, xs, rfl, t0, ep, lx, tr, br⟩
    have B0 := bg_ge (f := f) (s := s) f1 s0 t0
    have Bs := bg_succ f s t
    have ts := mul_nn t0 s0
    walk_at "rd"
    refine x_wh (fun g => ?_) (fun g => ?_)
    · have gg : Bg f s t < m := by omega
      have zb : f + t * s ≤ m + s + f := by
        rcases br with rfl | br
        · omega
        · have h1 := bg_succ f s (t - 1)
          rw [show t - 1 + 1 = t by omega] at h1
          have h2 : (t - 1) * s = t * s - s := by grind
          by_cases z : t = 0
          · subst z; omega
          · have := bg_ge (f := f) (s := s) f1 s0 (show 0 ≤ t - 1 by omega)
            omega
      have e1 : f + t * s + s = f + (t + 1) * s := by grind
      walk_at "rd"
      intro r hr
      walk_at "rd"
      intro l hl
      walk_at "rd"
      refine x_repN upd_same (by omega) (by omega) fun p2 hp2 => ?_
      refine x_cat (at_upd hp2 (at_upd hl (at_upd hr ep))) upd_same (by
        have : 1000 ≤ sizeLine := by decide
        simp; omega) fun p3 hp3 => ?_
      walk_at "rd"
      have sm := (((same_upd (o := HO.tup [V.int (Bg f s t), V.int (f + t * s)]) hr).trans (same_upd (o := HO.lst [V.ref r]) hl)).trans (same_upd (o := HO.lst (List.replicate (f + t * s).toNat (V.ref r))) hp2)).trans (same_upd (o := HO.lst (xs ++ List.replicate (f + t * s).toNat (V.ref r))) hp3)
      have er := at_upd (u := HO.lst (xs ++ List.replicate (f + t * s).toNat (V.ref r))) hp3 (at_upd (u := HO.lst (List.replicate (f + t * s).toNat (V.ref r))) hp2 (at_upd (u := HO.lst [V.ref r]) hl (upd_same (H := H1) (a := r) (o := HO.tup [V.int (Bg f s t), V.int (f + t * s)]))))
      refine ⟨⟨s1.trans sm, p3, t + 1, _, by rw [bg_succ, ← e1], by omega, upd_same, ?_, TrA.app f1 s0 t0 (tr.same sm) lx (by omega) er, .inr (by rw [show t + 1 - 1 = t by omega]; exact gg)⟩, ?_⟩
      · rw [bg_succ, List.length_append, List.length_replicate]
        omega
      · show (m - (Bg f s t + (f + t * s))).toNat < (m - Bg f s t).toNat
        omega
    · walk_at "rd"
      refine x_slL (sql ep) fun r hr => ?_
      exact k r _ (xs.take m.toNat) (s1.trans (same_upd hr)) (by rw [cut_to m0]; exact upd_same) (by rw [List.length_take]; omega) ((tr.take _).same (same_upd hr))
theorem sc__law_next : FnScope ["_law_source", "_law_many", "_law_found", "_law_prime", "_law_figure"] ["_law_source", "_law_many"] (defScope s__law_next) := ⟨rfl, rfl, rfl, by decide +kernel, rfl, by decide +kernel, by decide +kernel⟩
theorem ok__law_next {P : Program} {w : World} {K : PySem.W.Frag} {mg : Str → Option Value} {base : Heap} (T : Txt K mg) : ∃ fd, FnOk P w K mg base CX0 1 (He.ga K "_law_next") fd ["_law_source", "_law_many"] sp__law_next ∧ Binds K fd ["_law_source", "_law_many"] [] ∧ FunD K d__law_next.name d__law_next.qual d__law_next.params d__law_next.body d__law_next.scope (d__law_next.dvs K) (d__law_next.kws K) (He.fAd K d__law_next.at_) fd := by
  obtain ⟨fd, F⟩ := T.f__law_next
  refine ⟨fd, ?_, F.bindsN fun _ _ _ _ _ _ us hl => match us, hl with | [_, _], _ => rfl, F⟩
  refine F.ok (k := 0) sc__law_next (fun vs H Q E h => ?_) (fun cdv A outer s H vs Q E hr h => ?_)
  · obtain ⟨a, n, m, rfl, _⟩ := h
    rfl
  · obtain ⟨a, n, m, rfl, ⟨s0, s1, s2, e, h1, h2, h3, h4⟩, hn, m0, m1, k⟩ := h
    refine ⟨_, PSs.nox (pss_cons (ps_if (pt_cmpR op_gt (pe_ix ix_list (pv 0) pe_int (fun _ _ => rfl)) pe_int (nomark _)) (pss_cons (ps_set (i := 2) sc__law_next.nd rfl (Or.inl rfl) (pe_op op_modN (pe_ix ix_list (pv 0) pe_int (fun _ _ => rfl)) (pv 1)))
      (pss_cons (ps_asg (pe_op op_fdivW (pe_ix ix_list (pv 0) pe_int (fun _ _ => rfl)) (pv 1)) (pg_sub (pv 0) pe_int set_list))
      (pss_one (ps_ret (pv 2))))) pss_nil)
      (pss_cons (ps_asg (pe_op op_add (pe_ix ix_list (pv 0) pe_int (fun _ _ => rfl)) pe_int) (pg_sub (pv 0) pe_int set_list))
      (pss_cons (ps_set (i := 3) sc__law_next.nd rfl (Or.inl rfl) (pe_ix ix_list (pe_lst (pa_cons pe_int (pa_cons pe_int (pa_cons pe_int (pa_cons pe_int (pa_cons pe_int (pa_cons pe_int (pa_cons pe_int pa_nil)))))))) (pe_op op_modN (pe_ix ix_list (pv 0) pe_int (fun _ _ => rfl)) pe_int) (fun _ _ => rfl)))
      (pss_cons (ps_set (i := 4) sc__law_next.nd rfl (Or.inl rfl) (pe_op op_modN (pe_op op_pow (pe_op op_add (pe_op op_add (pe_ix ix_list (pv 0) pe_int (fun _ _ => rfl)) (pe_op op_mulW pe_int (pe_ix ix_list (pv 0) pe_int (fun _ _ => rfl)))) pe_int) pe_int) (pv 3)))
      (pss_cons (ps_set (i := 4) sc__law_next.nd rfl (Or.inl rfl) (pe_op op_modN (pe_op op_mulW (pe_op op_add (pv 4) (pe_ix ix_list (pv 0) pe_int (fun _ _ => rfl))) (pe_op op_add (pe_op op_fdivW (pv 4) pe_int) pe_int)) (pv 3)))
      (pss_one (ps_ret (pe_op op_modN (pe_op op_fdivW (pv 4) pe_int) (pv 1))))))))), ?_⟩
    show (_ : TS) _ [some (.ref a), some (.int m), none, none, none] _
    try dsimp only [nk]
    have bm : Bd 4000 m := Bd.of (by omega) m1
    walk_at "rd"
    refine x_ite (p := 0 < s0) (fun c => ?_) (fun c => ?_)
    · walk_at "rd"
      refine x_setL e (show ixN 3 0 = some 0 from rfl) ?_
      walk_at "rd"
      exact k _ _ (Int.fmod_nonneg_of_pos _ m0) (Int.fmod_lt_of_pos _ m0) ⟨_, _, _, upd_same, h1, h2, h3, by omega⟩ but_set
    · walk_at "rd"
      refine x_setL e (show ixN 3 2 = some 2 from rfl) ?_
      have e1 : ((upd H a (.lst ([V.int s0, V.int s1, V.int s2].set 2 (V.int (s2 + 1)))) : Hp) a) = some (.lst [V.int s0, V.int s1, V.int (s2 + 1)]) := upd_same
      have b1 : But a H (upd H a (.lst ([V.int s0, V.int s1, V.int s2].set 2 (V.int (s2 + 1))))) := but_set
      generalize upd H a (.lst ([V.int s0, V.int s1, V.int s2].set 2 (V.int (s2 + 1)))) = H1 at *
      have h3' : 0 ≤ s2 + 1 := by omega
      have h4' : s2 + 1 < 2 ^ 51 := by omega
      have h5' : s2 + 1 ≤ n + 1 := by omega
      generalize s2 + 1 = z2 at *
      have bz : Bd 51 z2 := Bd.of h3' h4'
      walk_at "rd"
      intro p hp
      walk_at "rd"
      have g0 : 0 ≤ z2.fmod 7 := Int.fmod_nonneg_of_pos _ (by decide)
      have g1 : z2.fmod 7 < 7 := Int.fmod_lt_of_pos _ (by decide)
      obtain ⟨v, hv, ev⟩ := atI_in (xs := [V.int 2147483647, V.int 2147483629, V.int 2147483587, V.int 2147483579, V.int 2147483563, V.int 2147483549, V.int 2147483543]) g0 (by show z2.fmod 7 < 7; exact g1)
      obtain ⟨pr, rfl, p0, p1⟩ : ∃ pr : Int, v = V.int pr ∧ 2147483543 ≤ pr ∧ pr ≤ 2147483647 := by
        simp only [List.mem_cons, List.not_mem_nil, or_false] at hv
        rcases hv with rfl | rfl | rfl | rfl | rfl | rfl | rfl <;> exact ⟨_, rfl, by decide, by decide⟩
      refine x_ixL (sql upd_same) ev ?_
      have e2 := at_upd (o := HO.lst [V.int s0, V.int s1, V.int z2]) (u := HO.lst [V.int 2147483647, V.int 2147483629, V.int 2147483587, V.int 2147483579, V.int 2147483563, V.int 2147483549, V.int 2147483543]) hp e1
      have b2 : But a H (upd H1 p (.lst [V.int 2147483647, V.int 2147483629, V.int 2147483587, V.int 2147483579, V.int 2147483563, V.int 2147483549, V.int 2147483543])) := b1.trans (But.of (same_upd hp))
      generalize upd H1 p (.lst [V.int 2147483647, V.int 2147483629, V.int 2147483587, V.int 2147483579, V.int 2147483563, V.int 2147483549, V.int 2147483543]) = H2 at *
      walk_at "rd"
      refine x_rI (C := CPow) ⟨by decide, by decide, by omega⟩ ?_
      walk_at "rd"
      have q0 := Int.fmod_nonneg_of_pos ((s1 + 7919 * z2 + 1) ^ Int.toNat 5) (show 0 < pr by omega)
      have q1 := Int.fmod_lt_of_pos ((s1 + 7919 * z2 + 1) ^ Int.toNat 5) (show 0 < pr by omega)
      generalize ((s1 + 7919 * z2 + 1) ^ Int.toNat 5).fmod pr = fg at *
      have bf : Bd 40 fg := Bd.of q0 (by omega)
      walk_at "rd"
      exact k _ _ (Int.fmod_nonneg_of_pos _ m0) (Int.fmod_lt_of_pos _ m0) ⟨_, _, _, e2, h1, h2, h3', h5'⟩ b2
theorem sc__law_source_of : FnScope ["_law_cell"] ["_law_cell"] (defScope s__law_source_of) := ⟨rfl, rfl, rfl, by decide +kernel, rfl, by decide +kernel, by decide +kernel⟩
theorem ok__law_source_of {P : Program} {w : World} {K : PySem.W.Frag} {mg : Str → Option Value} {base : Heap} (T : Txt K mg) : ∃ fd, FnOk P w K mg base CX0 1 (He.ga K "_law_source_of") fd ["_law_cell"] sp__law_source_of ∧ Binds K fd ["_law_cell"] [] ∧ FunD K d__law_source_of.name d__law_source_of.qual d__law_source_of.params d__law_source_of.body d__law_source_of.scope (d__law_source_of.dvs K) (d__law_source_of.kws K) (He.fAd K d__law_source_of.at_) fd := by
  obtain ⟨fd, F⟩ := T.f__law_source_of
  refine ⟨fd, ?_, F.bindsN fun _ _ _ _ _ _ us hl => match us, hl with | [_], _ => rfl, F⟩
  refine F.ok (k := 0) sc__law_source_of (fun vs H Q E h => ?_) (fun cdv A outer s H vs Q E hr h => ?_)
  · obtain ⟨c, rfl, _⟩ := h
    rfl
  · obtain ⟨c, rfl, k⟩ := h
    refine ⟨_, PSs.nox (pss_one (ps_ret (pe_lst (pa_cons (pe_op op_mul (pv 0) (pe_callTy cl_int (by rfl) T.z_int (by decide +kernel) (pa_cons (pe_cmpR op_ge (pv 0) (pe_pw (r := 1000000000000000000) ⟨by decide, by decide, by decide⟩ (by decide +kernel)) (nomark _)) pa_nil))) (pa_cons (pe_op op_modN (pv 0) pe_int) (pa_cons pe_int pa_nil)))))), ?_⟩
    show (_ : TS) _ [some (.int c)] _
    try dsimp only [nk]
    walk_at "rd"
    refine x_rI (C := CMul) (Or.inr (by split <;> decide)) ?_
    walk_at "rd"
    intro q hq
    exact k q _ hq (same_upd hq) ⟨_, _, _, upd_same, Int.fmod_nonneg_of_pos _ (by decide), Int.fmod_lt_of_pos _ (by decide), by decide, by decide⟩
theorem sc_is_from : FnScope ["low", "thing"] ["low", "thing"] (defScope s_is_from) := ⟨rfl, rfl, rfl, by decide +kernel, rfl, by decide +kernel, by decide +kernel⟩
theorem ok_is_from {P : Program} {w : World} {K : PySem.W.Frag} {mg : Str → Option Value} {base : Heap} (T : Txt K mg) : ∃ fd, FnOk P w K mg base CX0 2 (He.ga K "is_from") fd ["low", "thing"] sp_is_from ∧ Binds K fd ["low", "thing"] [] ∧ FunD K d_is_from.name d_is_from.qual d_is_from.params d_is_from.body d_is_from.scope (d_is_from.dvs K) (d_is_from.kws K) (He.fAd K d_is_from.at_) fd := by
  obtain ⟨fd_is_whole, G_is_whole, b_is_whole, F_is_whole⟩ := ok_is_whole (P := P) (w := w) (base := base) T
  obtain ⟨fd, F⟩ := T.f_is_from
  refine ⟨fd, ?_, F.bindsN fun _ _ _ _ _ _ us hl => match us, hl with | [_, _], _ => rfl, F⟩
  refine F.ok (k := 1) sc_is_from (fun vs H Q E h => ?_) (fun cdv A outer s H vs Q E hr h => ?_)
  · obtain ⟨l, n, rfl, _⟩ := h
    rfl
  · obtain ⟨l, n, rfl, k⟩ := h
    refine ⟨_, PSs.nox (pss_one (ps_ret (pe_and (pe_call G_is_whole (hr.mono (by decide)) rfl T.g_is_whole T.k_is_whole b_is_whole .nil pass0 (pa_cons (pv 1) pa_nil)) (pe_one (pe_cmpR op_ge (pv 1) (pv 0) (nomark _)))))), ?_⟩
    show (_ : TS) _ [some (.int l), some (.int n)] _
    try dsimp only [nk]
    walk_at "rd"
    exact k
theorem sc__law_under : FnScope ["_law_first_here", "_law_step_here", "_law_many", "_law_turns_here", "_law_found", "_law_j", "_law_begin", "_law_size", "_law_less", "_law_p", "_law_some", "_law_q"] ["_law_first_here", "_law_step_here", "_law_many"] (defScope s__law_under) := ⟨rfl, rfl, rfl, by decide +kernel, rfl, by decide +kernel, by decide +kernel⟩
theorem ok__law_under {P : Program} {w : World} {K : PySem.W.Frag} {mg : Str → Option Value} {base : Heap} (T : Txt K mg) : ∃ fd, FnOk P w K mg base CX0 2 (He.ga K "_law_under") fd ["_law_first_here", "_law_step_here", "_law_many"] sp__law_under ∧ Binds K fd ["_law_first_here", "_law_step_here", "_law_many"] [] ∧ FunD K d__law_under.name d__law_under.qual d__law_under.params d__law_under.body d__law_under.scope (d__law_under.dvs K) (d__law_under.kws K) (He.fAd K d__law_under.at_) fd := by
  obtain ⟨fd__law_turns, G__law_turns, b__law_turns, F__law_turns⟩ := ok__law_turns (P := P) (w := w) (base := base) T
  obtain ⟨fd, F⟩ := T.f__law_under
  refine ⟨fd, ?_, F.bindsN fun _ _ _ _ _ _ us hl => match us, hl with | [_, _, _], _ => rfl, F⟩
  refine F.ok (k := 1) sc__law_under (fun vs H Q E h => ?_) (fun cdv A outer s H vs Q E hr h => ?_)
  · obtain ⟨f, s, m, rfl, _⟩ := h
    rfl
  · obtain ⟨f, s, m, rfl, f1, f2, s0, s2, m0, m2, k⟩ := h
    refine ⟨_, PSs.nox (pss_cons (ps_set (i := 3) sc__law_under.nd rfl (Or.inl rfl) (pe_call G__law_turns (hr.mono (by decide)) rfl T.g__law_turns T.k__law_turns b__law_turns .nil pass0 (pa_cons (pv 0) (pa_cons (pv 1) (pa_cons (pv 2) pa_nil)))))
      (pss_cons (ps_set (i := 4) sc__law_under.nd rfl (Or.inl rfl) (pe_lst pa_nil))
      (pss_cons (ps_for PassesOwn.never rfl (pi_enum (by rfl) T.z_enumerate (pa_cons (pv 3) pa_nil)) (pg_tup rfl (pgs_cons (pg_name (i := 5) sc__law_under.nd rfl (Or.inl rfl)) (pgs_cons (pg_tup rfl (pgs_cons (pg_name (i := 6) sc__law_under.nd rfl (Or.inr rfl)) (pgs_cons (pg_name (i := 7) sc__law_under.nd rfl (Or.inr rfl)) pgs_nil))) pgs_nil))) (pss_one (ps_if (pt_cmpR op_eq (pv 6) pe_int (nomark _)) (pss_one (ps_expr (pe_bm PySem.F.plainAttrs_list PySem.F.slot_list_append PySem.F.type_list_append mt_append (pv 4) (pa_cons (pv 5) pa_nil)))) (pss_cons (ps_set (i := 8) sc__law_under.nd rfl (Or.inr rfl) (pe_op op_sub (pv 7) (pv 1)))
      (pss_cons (ps_set (i := 9) sc__law_under.nd rfl (Or.inr rfl) (pe_op op_sub (pv 5) (pv 6)))
      (pss_cons (ps_setLc (i := 10) (own := [("_law_q", 11)]) rfl sc__law_under.nd rfl rfl (sw_true rfl rfl rfl (by decide +kernel)) (pi_range1 rfl T.z_range (pa_cons (pv 8) pa_nil)) (blkOk_by (own := [("_law_q", 11)]) (N := ["_law_first_here", "_law_step_here", "_law_many", "_law_turns_here", "_law_found", "_law_j", "_law_begin", "_law_size", "_law_less", "_law_p", "_law_some", "_law_q"]) (sc := defScope s__law_under) (by decide +kernel)) (fun _ _ _ _ _ => (pg_name (i := 11) sc__law_under.nd rfl (Or.inl rfl))) (fun _ _ _ _ _ => (pts_one (PW.pt (pw_and (pt_cmpR op_lt (pe_op op_mulW (pv 9) (pv 8)) (pe_op op_mulW (pe_op op_add (pv 11) pe_int) (pv 7)) (nomark _)) (pw_and1 (pt_cmpR op_lt (pe_op op_mulW (pv 11) (pv 7)) (pe_op op_mulW (pe_op op_add (pv 9) pe_int) (pv 8)) (nomark _))))))) (fun _ _ _ _ _ => (pe_op op_add (pe_op op_sub (pv 6) (pv 8)) (pv 11))))
      (pss_one (ps_expr (pe_bm PySem.F.plainAttrs_list PySem.F.slot_list_append PySem.F.type_list_append mt_append (pv 4) (pa_cons (pv 10) pa_nil))))))))))
      (pss_one (ps_ret (pv 4)))))), ?_⟩
    show (_ : TS) _ [some (.int f), some (.int s), some (.int m), none, none, none, none, none, none, none, none, none] _
    try dsimp only [nk]
    walk_at "rd"
    refine y_turns f1 f2 s0 s2 m0 m2 fun p1 H1 xs s1 e1 l1 tr => ?_
    walk_at "rd"
    intro F hF
    walk_at "rd"
    refine x_forE (at_upd hF e1) (fun i σ H' => Same H1 H' ∧ ∃ (acc : List V) (v5 v6 v7 v8 v9 v10 v11 : Option V), σ = [some (.int f), some (.int s), some (.int m), some (.ref p1), some (.ref F), v5, v6, v7, v8, v9, v10, v11] ∧ H' F = some (.lst acc) ∧ acc.length = i ∧ UnA H' f s F acc ∧ ∀ r, V.ref r ∈ acc → H r = none)
      ⟨same_upd hF, [], _, _, _, _, _, _, _, rfl, upd_same, rfl, fun k x hx => by simp at hx, fun r hr => by simp at hr⟩ (fun i σ H' q => q.1 _ _ e1) ?_ ?_
    · rintro i x σ H' T hi hx ⟨s2, acc, v5, v6, v7, v8, v9, v10, v11, rfl, eF, la, ua, na⟩ hT
      obtain ⟨r, rfl, er⟩ := tr i x hx
      have im : (i : Int) < m := by omega
      have er := s2 _ _ er
      have hF' := at_upd (u := HO.tup [V.int (i : Nat), V.ref r]) hT eF
      have er' := at_upd (u := HO.tup [V.int (i : Nat), V.ref r]) hT er
      have s3 := s2.trans (same_upd (o := HO.tup [V.int (i : Nat), V.ref r]) hT)
      have ua' := ua.same (same_upd (o := HO.tup [V.int (i : Nat), V.ref r]) hT)
      have eT := upd_same (H := H') (a := T) (o := HO.tup [V.int (i : Nat), V.ref r])
      generalize upd H' T (HO.tup [V.int (i : Nat), V.ref r]) = H2 at *
      have t0 := tOf_nn f1 s0 (show (0 : Int) ≤ (i : Nat) by omega)
      have t1 := tOf_le f1 s0 (show (0 : Int) ≤ (i : Nat) by omega)
      have t2 := tOf_gt f1 s0 (show (0 : Int) ≤ (i : Nat) by omega)
      have t3 := bg_nn f1 s0 t0
      walk_at "rd"
      refine x_ite (fun g => ?_) (fun g => ?_)
      · have e0 : tOf f s i = 0 := by omega
        walk_at "rd"
        refine x_append hF' (by omega) ?_
        walk_at "rd"
        exact ⟨sameD hF s3, _, _, _, _, _, _, _, _, rfl, upd_same, by simp [la], ua'.app (.inl ⟨by rw [la]; exact e0, by rw [la]⟩), fun r hr => by rcases List.mem_append.mp hr with hr | hr; exact na r hr; simp at hr⟩
      · have ne : ¬ tOf f s i = 0 := by
          intro z
          rw [z, bg_nul'] at g
          exact g rfl
        have u1 := bg_succ f s (tOf f s i - 1)
        rw [show tOf f s i - 1 + 1 = tOf f s i by omega] at u1
        have u2 : (tOf f s i - 1) * s = tOf f s i * s - s := by grind
        have u3 := bg_ge (f := f) (s := s) f1 s0 (show 0 ≤ tOf f s i - 1 by omega)
        have u4 := mul_nn (show 0 ≤ tOf f s i - 1 by omega) s0
        have bL : bnL f s i = Bg f s (tOf f s i - 1) + (i - Bg f s (tOf f s i)) * (f + tOf f s i * s - s) / (f + tOf f s i * s) := by
          unfold bnL metL plc siz
          rw [u2, show f + (tOf f s i * s - s) = f + tOf f s i * s - s by omega]
        have bH : bnH f s i = Bg f s (tOf f s i - 1) + ((i - Bg f s (tOf f s i) + 1) * (f + tOf f s i * s - s) - 1) / (f + tOf f s i * s) := by
          unfold bnH metH plc siz
          rw [u2, show f + (tOf f s i * s - s) = f + tOf f s i * s - s by omega]
        have bi : (i : Int) ≤ 300 := by omega
        generalize hB : Bg f s (tOf f s i) = B at *
        generalize hz : f + tOf f s i * s = z at *
        generalize Bg f s (tOf f s i - 1) = Bl at *
        have eB : B - (z - s) = Bl := by omega
        have p0 : 0 ≤ (i : Int) - B := by omega
        have lo0 : 0 ≤ ((i : Int) - B) * (z - s) / z := Int.ediv_nonneg (mul_nn p0 (by omega)) (by omega)
        have hi1 : ((i - B + 1) * (z - s) - 1) / z < z - s := by
          apply Int.ediv_lt_of_lt_mul (by omega)
          have := Int.mul_le_mul_of_nonneg_right (show (i : Int) - B + 1 ≤ z by omega) (show 0 ≤ z - s by omega)
          have : z * (z - s) = (z - s) * z := Int.mul_comm _ _
          omega
        have kp := fun q : Int => keep_iff (p := (i : Int) - B) (q := q) (show 0 < z by omega) (show 0 < z - s by omega)
        generalize hlo : ((i : Int) - B) * (z - s) / z = lo at *
        generalize hhi : ((i - B + 1) * (z - s) - 1) / z = hi' at *
        have bdp : Bd 20 ((i : Int) - B) := Bd.of p0 (by omega)
        have bdl : Bd 20 (z - s) := Bd.of (by omega) (by omega)
        have bdz : Bd 20 z := Bd.of (by omega) (by omega)
        walk_at "rd"
        refine x_lcR rfl (by omega) (fun i' acc' H'' => Same H2 H'' ∧ acc' = (rngI (Bl + lo) (Bl + min hi' ((i' : Int) - 1))).map V.int) (fun D0 hD => ⟨same_upd hD, by rw [rngI_nil (by omega)]; rfl⟩) ?_ ?_
        · rintro D0 q acc' H3 hD hq ⟨s5, rfl⟩ eD la' li
          have bdq : Bd 20 (0 + (q : Int)) := Bd.of (by omega) (by omega)
          have kq := kp (0 + (q : Int))
          walk_at "rd"
          refine x_ite (fun c1 => ?_) (fun c1 => ?_)
          · walk_at "rd"
            refine x_ite (fun c2 => ?_) (fun c2 => ?_)
            · obtain ⟨k1, k2⟩ := kq.mp ⟨c1, c2⟩
              walk_at "rd"
              refine x_lcA eD la' li ⟨sameD hD s5, ?_⟩
              have m1 : min hi' ((q : Int) - 1) = q - 1 := by omega
              have m2 : min hi' (((q + 1 : Nat) : Int) - 1) = q := by omega
              rw [m1, m2]
              have sn := rngI_snoc (a := Bl + lo) (b := Bl + ((q : Int) - 1)) (by omega)
              rw [show Bl + ((q : Int) - 1) + 1 = Bl + q by omega] at sn
              rw [sn, List.map_append, show B - (z - s) + (0 + (q : Int)) = Bl + q by omega]
              rfl
            · have nk : ¬ (lo ≤ 0 + (q : Int) ∧ 0 + (q : Int) ≤ hi') := fun z => c2 (kq.mpr z).2
              walk_at "rd"
              refine x_lcN eD la' (Nat.le_succ _) ⟨s5, ?_⟩
              by_cases w : lo ≤ (q : Int)
              · rw [show min hi' (((q + 1 : Nat) : Int) - 1) = min hi' ((q : Int) - 1) by omega]
              · rw [rngI_nil (by omega), rngI_nil (by omega)]
          · have nk : ¬ (lo ≤ 0 + (q : Int) ∧ 0 + (q : Int) ≤ hi') := fun z => c1 (kq.mpr z).1
            walk_at "rd"
            refine x_lcN eD la' (Nat.le_succ _) ⟨s5, ?_⟩
            by_cases w : lo ≤ (q : Int)
            · rw [show min hi' (((q + 1 : Nat) : Int) - 1) = min hi' ((q : Int) - 1) by omega]
            · rw [rngI_nil (by omega), rngI_nil (by omega)]
        · rintro D0 acc' H3 hD eD ⟨s5, rfl⟩
          have nD : D0 ≠ F := Ne.symm (ne_of_none hF' hD)
          rw [show min hi' (((z - s).toNat : Int) - 1) = hi' by omega, ← bL, ← bH] at eD
          walk_at "rd"
          refine x_append (s5 _ _ hF') (by omega) ?_
          walk_at "rd"
          refine ⟨sameD hF (s3.trans s5), _, _, _, _, _, _, _, _, rfl, upd_same, by simp [la], (ua'.same s5).app (.inr ⟨by rw [la]; exact ne, D0, rfl, nD, by rw [la]; exact eD⟩), fun r hr => ?_⟩
          rcases List.mem_append.mp hr with hr | hr
          · exact na r hr
          · have er2 : r = D0 := by simpa using hr
            rw [er2]
            exact none_of ((s1.trans s3)) hD
    · rintro σ H' ⟨s2, acc, v5, v6, v7, v8, v9, v10, v11, rfl, eF, la, ua, na⟩
      walk_at "rd"
      exact k F H' acc (s1.trans s2) eF (by omega) ua ⟨none_of s1 hF, na⟩
theorem sc_check_length : FnScope ["length"] ["length"] (defScope s_check_length) := ⟨rfl, rfl, rfl, by decide +kernel, rfl, by decide +kernel, by decide +kernel⟩
theorem ok_check_length {P : Program} {w : World} {K : PySem.W.Frag} {mg : Str → Option Value} {base : Heap} (T : Txt K mg) : ∃ fd, FnOk P w K mg base CX0 3 (He.ga K "check_length") fd ["length"] sp_check_length ∧ Binds K fd ["length"] [] ∧ FunD K d_check_length.name d_check_length.qual d_check_length.params d_check_length.body d_check_length.scope (d_check_length.dvs K) (d_check_length.kws K) (He.fAd K d_check_length.at_) fd := by
  obtain ⟨fd_is_from, G_is_from, b_is_from, F_is_from⟩ := ok_is_from (P := P) (w := w) (base := base) T
  obtain ⟨fd, F⟩ := T.f_check_length
  refine ⟨fd, ?_, F.bindsN fun _ _ _ _ _ _ us hl => match us, hl with | [_], _ => rfl, F⟩
  refine F.ok (k := 2) sc_check_length (fun vs H Q E h => ?_) (fun cdv A outer s H vs Q E hr h => ?_)
  · obtain ⟨n, rfl, _⟩ := h
    rfl
  · obtain ⟨n, rfl, h0, k⟩ := h
    refine ⟨_, PSs.nox (pss_one (ps_if (pt_not (pt_val (pe_call G_is_from (hr.mono (by decide)) rfl T.g_is_from T.k_is_from b_is_from .nil pass0 (pa_cons pe_int (pa_cons (pv 0) pa_nil))))) (pss_one ps_never) pss_nil)), ?_⟩
    show (_ : TS) _ [some (.int n)] _
    try dsimp only [nk]
    walk_at "rd"
    exact k
theorem sc_check_turn : FnScope ["turn"] ["turn"] (defScope s_check_turn) := ⟨rfl, rfl, rfl, by decide +kernel, rfl, by decide +kernel, by decide +kernel⟩
theorem ok_check_turn {P : Program} {w : World} {K : PySem.W.Frag} {mg : Str → Option Value} {base : Heap} (T : Txt K mg) : ∃ fd, FnOk P w K mg base CX0 3 (He.ga K "check_turn") fd ["turn"] sp_check_turn ∧ Binds K fd ["turn"] [] ∧ FunD K d_check_turn.name d_check_turn.qual d_check_turn.params d_check_turn.body d_check_turn.scope (d_check_turn.dvs K) (d_check_turn.kws K) (He.fAd K d_check_turn.at_) fd := by
  obtain ⟨fd_is_from, G_is_from, b_is_from, F_is_from⟩ := ok_is_from (P := P) (w := w) (base := base) T
  obtain ⟨fd, F⟩ := T.f_check_turn
  refine ⟨fd, ?_, F.bindsN fun _ _ _ _ _ _ us hl => match us, hl with | [_], _ => rfl, F⟩
  refine F.ok (k := 2) sc_check_turn (fun vs H Q E h => ?_) (fun cdv A outer s H vs Q E hr h => ?_)
  · obtain ⟨n, rfl, _⟩ := h
    rfl
  · obtain ⟨n, rfl, h0, k⟩ := h
    refine ⟨_, PSs.nox (pss_one (ps_if (pt_not (pt_val (pe_call G_is_from (hr.mono (by decide)) rfl T.g_is_from T.k_is_from b_is_from .nil pass0 (pa_cons pe_int (pa_cons (pv 0) pa_nil))))) (pss_one ps_never) pss_nil)), ?_⟩
    show (_ : TS) _ [some (.int n)] _
    try dsimp only [nk]
    walk_at "rd"
    exact k
theorem sc_Drumu__initu_ : FnScope ["self", "first", "step"] ["self", "first", "step"] (defScope s_Drumu__initu_) := ⟨rfl, rfl, rfl, by decide +kernel, rfl, by decide +kernel, by decide +kernel⟩
theorem ok_Drumu__initu_ {P : Program} {w : World} {K : PySem.W.Frag} {mg : Str → Option Value} {base : Heap} (T : Txt K mg) : ∃ fd, FnOk P w K mg base CX0 3 (He.ma K (He.ga K "Drum") "__init__") fd ["self", "first", "step"] (sp_Drumu__initu_ K) ∧ Binds K fd ["self", "first", "step"] [] ∧ FunD K d_Drumu__initu_.name d_Drumu__initu_.qual d_Drumu__initu_.params d_Drumu__initu_.body d_Drumu__initu_.scope (d_Drumu__initu_.dvs K) (d_Drumu__initu_.kws K) (He.fAd K d_Drumu__initu_.at_) fd := by
  obtain ⟨fd_is_from, G_is_from, b_is_from, F_is_from⟩ := ok_is_from (P := P) (w := w) (base := base) T
  obtain ⟨fd, F⟩ := T.f_Drumu__initu_
  refine ⟨fd, ?_, F.bindsN fun _ _ _ _ _ _ us hl => match us, hl with | [_, _, _], _ => rfl, F⟩
  obtain ⟨tg_TOO_GREAT, hc_TOO_GREAT⟩ := T.c_TOO_GREAT
  refine F.ok (k := 2) sc_Drumu__initu_ (fun vs H Q E h => ?_) (fun cdv A outer s H vs Q E hr h => ?_)
  · obtain ⟨p, dx, f, s, rfl, _⟩ := h
    rfl
  · obtain ⟨p, dx, f, s, rfl, hp, f1, f2, s1, s2, k⟩ := h
    refine ⟨_, PSs.nox (pss_cons (ps_if (PW.pt (pw_or (pt_not (pt_val (pe_call G_is_from (hr.mono (by decide)) rfl T.g_is_from T.k_is_from b_is_from .nil pass0 (pa_cons pe_int (pa_cons (pv 1) pa_nil))))) (pw_or1 (pt_cmpR op_ge (pv 1) (pe_glob (v := .int 1000000000000000) rfl hc_TOO_GREAT ⟨_, rfl⟩) (nomark _))))) (pss_one ps_never) pss_nil)
      (pss_cons (ps_if (PW.pt (pw_or (pt_not (pt_val (pe_call G_is_from (hr.mono (by decide)) rfl T.g_is_from T.k_is_from b_is_from .nil pass0 (pa_cons pe_int (pa_cons (pv 2) pa_nil))))) (pw_or1 (pt_cmpR op_ge (pv 2) (pe_glob (v := .int 1000000000000000) rfl hc_TOO_GREAT ⟨_, rfl⟩) (nomark _))))) (pss_one ps_never) pss_nil)
      (pss_cons (ps_fld (pv 0) (pv 1) rfl)
      (pss_one (ps_fld (pv 0) (pv 2) rfl))))), ?_⟩
    show (_ : TS) _ [some (.ref p), some (.int f), some (.int s)] _
    try dsimp only [nk]
    walk_at "rd"
    refine ⟨_, rfl, _, rfl, p, _, dx, _, rfl, hp, T.cl_Drum, T.n_first, by decide, ?_⟩
    refine ⟨_, rfl, _, rfl, p, _, dx, _, rfl, upd_same, T.cl_Drum, T.n_step, (by show 1 < 1000; decide), ?_⟩
    rw [upd_upd]
    exact k
theorem sc__check_tried : FnScope ["first", "step"] ["first", "step"] (defScope s__check_tried) := ⟨rfl, rfl, rfl, by decide +kernel, rfl, by decide +kernel, by decide +kernel⟩
theorem ok__check_tried {P : Program} {w : World} {K : PySem.W.Frag} {mg : Str → Option Value} {base : Heap} (T : Txt K mg) : ∃ fd, FnOk P w K mg base CX0 3 (He.ga K "_check_tried") fd ["first", "step"] sp__check_tried ∧ Binds K fd ["first", "step"] [] ∧ FunD K d__check_tried.name d__check_tried.qual d__check_tried.params d__check_tried.body d__check_tried.scope (d__check_tried.dvs K) (d__check_tried.kws K) (He.fAd K d__check_tried.at_) fd := by
  obtain ⟨fd_is_from, G_is_from, b_is_from, F_is_from⟩ := ok_is_from (P := P) (w := w) (base := base) T
  obtain ⟨fd, F⟩ := T.f__check_tried
  refine ⟨fd, ?_, F.bindsN fun _ _ _ _ _ _ us hl => match us, hl with | [_, _], _ => rfl, F⟩
  obtain ⟨tg_MOST_TRIED, hc_MOST_TRIED⟩ := T.c_MOST_TRIED
  refine F.ok (k := 2) sc__check_tried (fun vs H Q E h => ?_) (fun cdv A outer s H vs Q E hr h => ?_)
  · obtain ⟨F, S, rfl, _⟩ := h
    rfl
  · obtain ⟨F, S, rfl, h1, h2, h3, h4, k⟩ := h
    refine ⟨_, PSs.nox (pss_cons (ps_if (PW.pt (pw_or (pt_not (pt_val (pe_call G_is_from (hr.mono (by decide)) rfl T.g_is_from T.k_is_from b_is_from .nil pass0 (pa_cons pe_int (pa_cons (pv 0) pa_nil))))) (pw_or1 (pt_cmpR op_gt (pv 0) (pe_glob (v := .int 100) rfl hc_MOST_TRIED ⟨_, rfl⟩) (nomark _))))) (pss_one ps_never) pss_nil)
      (pss_one (ps_if (PW.pt (pw_or (pt_not (pt_val (pe_call G_is_from (hr.mono (by decide)) rfl T.g_is_from T.k_is_from b_is_from .nil pass0 (pa_cons pe_int (pa_cons (pv 1) pa_nil))))) (pw_or1 (pt_cmpR op_gt (pv 1) (pe_glob (v := .int 100) rfl hc_MOST_TRIED ⟨_, rfl⟩) (nomark _))))) (pss_one ps_never) pss_nil))), ?_⟩
    show (_ : TS) _ [some (.int F), some (.int S)] _
    try dsimp only [nk]
    walk_at "rd"
    exact k
theorem sc_Drum_size : FnScope ["self", "turn"] ["self", "turn"] (defScope s_Drum_size) := ⟨rfl, rfl, rfl, by decide +kernel, rfl, by decide +kernel, by decide +kernel⟩
theorem ok_Drum_size {P : Program} {w : World} {K : PySem.W.Frag} {mg : Str → Option Value} {base : Heap} (T : Txt K mg) : ∃ fd, FnOk P w K mg base CX0 4 (He.ma K (He.ga K "Drum") "size") fd ["self", "turn"] (sp_Drum_size K) ∧ Binds K fd ["self", "turn"] [] ∧ FunD K d_Drum_size.name d_Drum_size.qual d_Drum_size.params d_Drum_size.body d_Drum_size.scope (d_Drum_size.dvs K) (d_Drum_size.kws K) (He.fAd K d_Drum_size.at_) fd := by
  obtain ⟨fd_check_turn, G_check_turn, b_check_turn, F_check_turn⟩ := ok_check_turn (P := P) (w := w) (base := base) T
  obtain ⟨fd, F⟩ := T.f_Drum_size
  refine ⟨fd, ?_, F.bindsN fun _ _ _ _ _ _ us hl => match us, hl with | [_, _], _ => rfl, F⟩
  refine F.ok (k := 3) sc_Drum_size (fun vs H Q E h => ?_) (fun cdv A outer s H vs Q E hr h => ?_)
  · obtain ⟨p, f, s, t, rfl, _⟩ := h
    rfl
  · obtain ⟨p, f, s, t, rfl, d, h0, h1, k⟩ := h
    refine ⟨_, PSs.nox (pss_cons (ps_expr (pe_call G_check_turn (hr.mono (by decide)) rfl T.g_check_turn T.k_check_turn b_check_turn .nil pass0 (pa_cons (pv 1) pa_nil)))
      (pss_one (ps_ret (pe_op op_add (pe_fld (pv 0) rfl) (pe_op op_mulW (pv 1) (pe_fld (pv 0) rfl)))))), ?_⟩
    show (_ : TS) _ [some (.ref p), some (.int t)] _
    try dsimp only [nk]
    have bt : Bd 1000 t := Bd.of h0 h1
    walk_at "rd"
    exact k
theorem sc__drums_till : FnScope ["first", "step", "f", "s"] ["first", "step"] (defScope s__drums_till) := ⟨rfl, rfl, rfl, by decide +kernel, rfl, by decide +kernel, by decide +kernel⟩
theorem ok__drums_till {P : Program} {w : World} {K : PySem.W.Frag} {mg : Str → Option Value} {base : Heap} (T : Txt K mg) : ∃ fd, FnOk P w K mg base CX0 5 (He.ga K "_drums_till") fd ["first", "step"] (sp__drums_till K) ∧ Binds K fd ["first", "step"] [] ∧ FunD K d__drums_till.name d__drums_till.qual d__drums_till.params d__drums_till.body d__drums_till.scope (d__drums_till.dvs K) (d__drums_till.kws K) (He.fAd K d__drums_till.at_) fd := by
  obtain ⟨fd_Drumu__initu_, G_Drumu__initu_, b_Drumu__initu_, F_Drumu__initu_⟩ := ok_Drumu__initu_ (P := P) (w := w) (base := base) T
  obtain ⟨fd, F⟩ := T.f__drums_till
  refine ⟨fd, ?_, F.bindsN fun _ _ _ _ _ _ us hl => match us, hl with | [_, _], _ => rfl, F⟩
  refine F.ok (k := 4) sc__drums_till (fun vs H Q E h => ?_) (fun cdv A outer s H vs Q E hr h => ?_)
  · obtain ⟨F, S, rfl, _⟩ := h
    rfl
  · obtain ⟨F, S, rfl, h1, h2, h3, h4, k⟩ := h
    refine ⟨_, PSs.nox (pss_one (ps_ret (pe_lc2 (own := [("f", 2), ("s", 3)]) (vs1 := [3]) rfl sc__drums_till.nd (pi_rangeW (by rfl) T.z_range (pa_cons pe_int (pa_cons (pe_op op_add (pv 0) pe_int) pa_nil))) (blkOk_by (own := [("f", 2), ("s", 3)]) (N := ["first", "step", "f", "s"]) (sc := defScope s__drums_till) (by decide +kernel)) (by decide) (fun _ _ _ _ _ => (pg_name (i := 2) sc__drums_till.nd rfl (Or.inl rfl))) (fun _ _ _ _ _ => pts_nil) (fun _ _ _ _ _ => (pi_range1 rfl T.z_range (pa_cons (pe_op op_add (pv 1) pe_int) pa_nil))) (fun _ _ _ _ _ => (pg_name (i := 3) sc__drums_till.nd rfl (Or.inl rfl))) (fun _ _ _ _ _ => pts_nil) (fun _ _ _ _ _ => (pe_make T.mk_Drum G_Drumu__initu_ (hr.mono (by decide)) rfl T.g_Drum b_Drumu__initu_ .nil pass0 (pa_cons (pv 2) (pa_cons (pv 3) pa_nil))))))), ?_⟩
    show (_ : TS) _ [some (.int F), some (.int S), none, none] _
    try dsimp only [nk]
    walk_at "rd"
    refine x_lc2R rfl (fun i acc H' => Same H H' ∧ acc.length ≤ i * 21 ∧ DrP K H' F S (1 + (i : Nat)) 0 acc) (fun D hD => ⟨same_upd hD, Nat.zero_le _, fun x hx => by simp at hx, fun g t b c => by unfold Bds at b; omega⟩) ?_ ?_
    · rintro D i acc H1 hD hi ⟨s1, la, dp⟩ eD
      walk_at "rd"
      refine x_lcI rfl (fun j acc H' => Same H H' ∧ acc.length ≤ i * 21 + j ∧ DrP K H' F S (1 + (i : Nat)) (j : Nat) acc) ⟨acc, eD, s1, la, dp⟩ ?_ ?_
      · rintro j acc H2 hj ⟨s2, la, dp⟩ eD
        walk_at "rd"
        refine x_mkP (by omega) (by omega) (by omega) (by omega) fun q H3 hq s3 dq => ?_
        have l2 : acc.length ≤ 1000 := by omega
        refine x_lcZ (s3 _ _ eD) l2 ⟨sameD hD (s2.trans s3), by simp; omega, ?_⟩
        have e0 : (0 : Int) + (j : Nat) = (j : Nat) := by omega
        rw [e0] at dq
        have ap := (dp.same s3).app dq (by unfold Bds; omega)
        rw [show ((j + 1 : Nat) : Int) = (j : Nat) + 1 by omega]
        exact ap.set (s3 _ _ eD)
      · rintro acc H2 eD ⟨s2, la, dp⟩
        refine x_lcY eD ⟨s2, by omega, ?_⟩
        rw [show (1 : Int) + ((i + 1 : Nat) : Int) = 1 + (i : Nat) + 1 by omega]
        exact dp.next (by omega)
    · rintro D acc H1 hD eD ⟨s1, la, dp⟩
      exact k D H1 acc s1 eD ⟨dp.1, fun g t b => dp.2 g t b (by unfold Bds at b; omega)⟩ (by omega)
theorem sc__least_above : FnScope ["low", "high", "whole", "top", "bottom"] ["low", "high"] (defScope s__least_above) := ⟨rfl, rfl, rfl, by decide +kernel, rfl, by decide +kernel, by decide +kernel⟩
theorem sc__least_from : FnScope ["low", "high", "whole", "top", "bottom"] ["low", "high"] (defScope s__least_from) := ⟨rfl, rfl, rfl, by decide +kernel, rfl, by decide +kernel, by decide +kernel⟩
theorem rec_la {P : Program} {w : World} {K : PySem.W.Frag} {mg : Str → Option Value} {base : Heap} (T : Txt K mg) {fd__least_above fd__least_from : FuncData} (FA : FunD K d__least_above.name d__least_above.qual d__least_above.params d__least_above.body d__least_above.scope (d__least_above.dvs K) (d__least_above.kws K) (He.fAd K d__least_above.at_) fd__least_above)
    (b__least_from : Binds K fd__least_from ["low", "high"] []) (n : Nat) (G__least_from : FnOk P w K mg base CX0 (2 * n + 3) (He.ga K "_least_from") fd__least_from ["low", "high"] (spLF (n + 1))) :
    FnOk P w K mg base CX0 (2 * n + 4) (He.ga K "_least_above") fd__least_above ["low", "high"] (spLA (n + 1)) := by
  obtain ⟨fd__turned, G__turned, b__turned, F__turned⟩ := ok__turned (P := P) (w := w) (base := base) T
  refine FA.ok (k := 2 * n + 3) sc__least_above (fun vs H Q E h => ?_) (fun cdv A outer s H vs Q E hr h => ?_)
  · obtain ⟨p, q, l0, l1, h0, h1, rfl, _⟩ := h
    rfl
  · obtain ⟨p, q, l0, l1, h0, h1, rfl, ep, eq, va, hn, k⟩ := h
    refine ⟨_, PSs.nox (pss_cons (ps_set (i := 2) sc__least_above.nd rfl (Or.inl rfl) (pe_op op_fdivW (pe_ix ix_tup (pv 0) pe_int (fun _ _ => rfl)) (pe_ix ix_tup (pv 0) pe_int (fun _ _ => rfl))))
      (pss_cons (ps_if (pt_cmpR op_le (pe_op op_mulW (pe_op op_add (pv 2) pe_int) (pe_ix ix_tup (pv 1) pe_int (fun _ _ => rfl))) (pe_ix ix_tup (pv 1) pe_int (fun _ _ => rfl)) (nomark _)) (pss_one (ps_ret (pe_tup (pa_cons (pe_op op_add (pv 2) pe_int) (pa_cons pe_int pa_nil))))) pss_nil)
      (pss_cons (ps_asg (pe_call G__least_from (hr.mono (by omega)) rfl T.g__least_from T.k__least_from b__least_from .nil pass0 (pa_cons (pe_call G__turned (hr.mono (by omega)) rfl T.g__turned T.k__turned b__turned .nil pass0 (pa_cons (pv 1) (pa_cons (pv 2) pa_nil))) (pa_cons (pe_call G__turned (hr.mono (by omega)) rfl T.g__turned T.k__turned b__turned .nil pass0 (pa_cons (pv 0) (pa_cons (pv 2) pa_nil))) pa_nil))) (pg_tup rfl (pgs_cons (pg_name (i := 3) sc__least_above.nd rfl (Or.inl rfl)) (pgs_cons (pg_name (i := 4) sc__least_above.nd rfl (Or.inl rfl)) pgs_nil))))
      (pss_one (ps_ret (pe_tup (pa_cons (pe_op op_add (pe_op op_mulW (pv 2) (pv 3)) (pv 4)) (pa_cons (pv 3) pa_nil)))))))), ?_⟩
    show (_ : TS) _ [some (.ref p), some (.ref q), none, none, none] _
    try dsimp only [nk]
    have bl0 : Bd 60 l0 := Bd.of va.kl0 (by have := va.b0; omega)
    have bl1 : Bd 60 l1 := Bd.of (by have := va.kl1; omega) (by have := va.b1; omega)
    have bh0 : Bd 60 h0 := Bd.of (by have := va.kh0; omega) (by have := va.b2; omega)
    have bh1 : Bd 60 h1 := Bd.of (by have := va.kh1; omega) (by have := va.b3; omega)
    have kl0 := va.kl0
    have kl1 := va.kl1
    have w0 : 0 ≤ l0 / l1 := Int.ediv_nonneg va.kl0 (by omega)
    have w1 : l0 / l1 * l1 ≤ l0 := Int.ediv_mul_le _ (by omega)
    have w2 : l0 < (l0 / l1 + 1) * l1 := Int.lt_ediv_add_one_mul_self _ (by omega)
    have w3 : l0 / l1 ≤ l0 := Int.ediv_le_self _ va.kl0
    have bw : Bd 60 (l0 / l1) := Bd.of w0 (by have := va.b0; omega)
    walk_at "rd"
    refine x_ite (fun c => ?_) (fun c => ?_)
    · walk_at "rd"
      intro r hr'
      exact k _ _ r _ (la_ret va w1 w2 w0 c) (same_upd hr') upd_same
    · have vf := la_vf va w1 w2 w0 c
      walk_at "rd"
      refine y_turned eq (bw.mono (by decide)) (bh1.mono (by decide)) fun q1 H1 s1 e1 => ?_
      walk_at "rd"
      refine y_turned (s1 _ _ ep) (bw.mono (by decide)) (bl1.mono (by decide)) fun q2 H2 s2 e2 => ?_
      walk_at "rd"
      refine y_lf (by omega) (s2 _ _ e1) e2 vf (fun w' a1 a2 a3 => halves vf c a2 a3 hn) fun t b r H3 lf s3 e3 => ?_
      obtain ⟨t0, t1, b1⟩ := lf.top vf
      have bt : Bd 60 t := Bd.of (by omega) (by have := va.b3; omega)
      walk_at "rd"
      intro r4 hr4
      exact k _ _ r4 _ (la_of va w1 w0 lf t0) (((s1.trans s2).trans s3).trans (same_upd hr4)) upd_same
theorem rec_lf {P : Program} {w : World} {K : PySem.W.Frag} {mg : Str → Option Value} {base : Heap} (T : Txt K mg) {fd__least_above fd__least_from : FuncData} (FF : FunD K d__least_from.name d__least_from.qual d__least_from.params d__least_from.body d__least_from.scope (d__least_from.dvs K) (d__least_from.kws K) (He.fAd K d__least_from.at_) fd__least_from)
    (b__least_above : Binds K fd__least_above ["low", "high"] []) (n : Nat) (G__least_above : FnOk P w K mg base CX0 (2 * n + 2) (He.ga K "_least_above") fd__least_above ["low", "high"] (spLA n)) :
    FnOk P w K mg base CX0 (2 * n + 3) (He.ga K "_least_from") fd__least_from ["low", "high"] (spLF (n + 1)) := by
  obtain ⟨fd__turned, G__turned, b__turned, F__turned⟩ := ok__turned (P := P) (w := w) (base := base) T
  refine FF.ok (k := 2 * n + 2) sc__least_from (fun vs H Q E h => ?_) (fun cdv A outer s H vs Q E hr h => ?_)
  · obtain ⟨_, p, q, l0, l1, h0, h1, rfl, _⟩ := h
    rfl
  · obtain ⟨_, p, q, l0, l1, h0, h1, rfl, ep, eq, vf, hn, k⟩ := h
    refine ⟨_, PSs.nox (pss_cons (ps_set (i := 2) sc__least_from.nd rfl (Or.inl rfl) (pe_un un_neg (pe_op op_fdivW (pe_un un_neg (pe_ix ix_tup (pv 0) pe_int (fun _ _ => rfl))) (pe_ix ix_tup (pv 0) pe_int (fun _ _ => rfl)))))
      (pss_cons (ps_if (pt_cmpR op_lt (pe_op op_mulW (pv 2) (pe_ix ix_tup (pv 1) pe_int (fun _ _ => rfl))) (pe_ix ix_tup (pv 1) pe_int (fun _ _ => rfl)) (nomark _)) (pss_one (ps_ret (pe_tup (pa_cons (pv 2) (pa_cons pe_int pa_nil))))) pss_nil)
      (pss_cons (ps_asg (pe_call G__least_above (hr.mono (by omega)) rfl T.g__least_above T.k__least_above b__least_above .nil pass0 (pa_cons (pe_call G__turned (hr.mono (by omega)) rfl T.g__turned T.k__turned b__turned .nil pass0 (pa_cons (pv 1) (pa_cons (pe_op op_sub (pv 2) pe_int) pa_nil))) (pa_cons (pe_call G__turned (hr.mono (by omega)) rfl T.g__turned T.k__turned b__turned .nil pass0 (pa_cons (pv 0) (pa_cons (pe_op op_sub (pv 2) pe_int) pa_nil))) pa_nil))) (pg_tup rfl (pgs_cons (pg_name (i := 3) sc__least_from.nd rfl (Or.inl rfl)) (pgs_cons (pg_name (i := 4) sc__least_from.nd rfl (Or.inl rfl)) pgs_nil))))
      (pss_one (ps_ret (pe_tup (pa_cons (pe_op op_add (pe_op op_mulW (pe_op op_sub (pv 2) pe_int) (pv 3)) (pv 4)) (pa_cons (pv 3) pa_nil)))))))), ?_⟩
    show (_ : TS) _ [some (.ref p), some (.ref q), none, none, none] _
    try dsimp only [nk]
    have kl0 := vf.kl0
    have kl1 := vf.kl1
    have bl0 : Bd 60 l0 := Bd.of (by omega) (by have := vf.b0; omega)
    have bl1 : Bd 60 l1 := Bd.of (by omega) (by have := vf.b1; omega)
    have bh0 : Bd 60 h0 := Bd.of (by have := vf.kh0; omega) (by have := vf.b2; omega)
    have bh1 : Bd 60 h1 := Bd.of vf.kh1 (by have := vf.b3; omega)
    have bn : Bd 60 (-l0) := by unfold Bd at *; omega
    have w1 : (-l0) / l1 * l1 ≤ -l0 := Int.ediv_mul_le _ (by omega)
    have w2 : -l0 < ((-l0) / l1 + 1) * l1 := Int.lt_ediv_add_one_mul_self _ (by omega)
    have wl : (-l0) / l1 ≤ -1 := by
      apply Classical.byContradiction
      intro c
      have := mul_nn (show 0 ≤ (-l0) / l1 by omega) (show 0 ≤ l1 by omega)
      omega
    have wh : -l0 ≤ (-l0) / l1 := by
      apply Classical.byContradiction
      intro c
      have : ((-l0) / l1 + 1) * l1 ≤ (-l0) * l1 := Int.mul_le_mul_of_nonneg_right (by omega) (by omega)
      have : l0 * 1 ≤ l0 * l1 := Int.mul_le_mul_of_nonneg_left (by omega) (by omega)
      have : -l0 * l1 = -(l0 * l1) := by grind
      omega
    walk_at "rd"
    have e : 0 - (-l0) / l1 = -((-l0) / l1) := by omega
    first | rw [e] | skip
    generalize hw : -((-l0) / l1) = w at *
    have hw' : (-l0) / l1 = -w := by omega
    have w1' : -w * l1 ≤ -l0 := by rw [← hw']; exact w1
    have w2' : -l0 < (-w + 1) * l1 := by rw [← hw']; exact w2
    rw [hw'] at wl wh
    have v0 : 1 ≤ w := by omega
    have v1 : (w - 1) * l1 < l0 := by
      have : (-w + 1) * l1 = -((w - 1) * l1) := by grind
      omega
    have v2 : l0 ≤ w * l1 := by
      have : -w * l1 = -(w * l1) := by grind
      omega
    have bw : Bd 60 w := Bd.of (by omega) (by have := vf.b0; omega)
    have bw1 : Bd 60 (w - 1) := Bd.of (by omega) (by have := vf.b0; omega)
    walk_at "rd"
    refine x_ite (fun c => ?_) (fun c => ?_)
    · walk_at "rd"
      intro r hr'
      exact k _ _ r _ (lf_ret vf v1 v2 v0 c) (same_upd hr') upd_same
    · have va := lf_va vf v1 v2 v0 c
      walk_at "rd"
      refine y_turned eq (bw1.mono (by decide)) (bh1.mono (by decide)) fun q1 H1 s1 e1 => ?_
      walk_at "rd"
      refine y_turned (s1 _ _ ep) (bw1.mono (by decide)) (bl1.mono (by decide)) fun q2 H2 s2 e2 => ?_
      walk_at "rd"
      refine y_la (s2 _ _ e1) e2 va (by have := hn w v1 v2 c; have : (2 : Int) ^ (n + 1) = 2 ^ n * 2 := Int.pow_succ ..; omega) fun t b r H3 la s3 e3 => ?_
      obtain ⟨t0, t1, b1⟩ := la.top va
      have bt : Bd 60 t := Bd.of (by omega) (by have := vf.b1; omega)
      walk_at "rd"
      intro r4 hr4
      exact k _ _ r4 _ (lf_of vf v1 v0 la t0) (((s1.trans s2).trans s3).trans (same_upd hr4)) upd_same
theorem rec_0 {P : Program} {w : World} {K : PySem.W.Frag} {mg : Str → Option Value} {base : Heap} {fd__least_above : FuncData} (FA : FunD K d__least_above.name d__least_above.qual d__least_above.params d__least_above.body d__least_above.scope (d__least_above.dvs K) (d__least_above.kws K) (He.fAd K d__least_above.at_) fd__least_above) :
    FnOk P w K mg base CX0 2 (He.ga K "_least_above") fd__least_above ["low", "high"] (spLA 0) := by
  have no : ∀ {vs : List V} {H : Hp} {Q : VK} {E : XK}, ¬ spLA 0 vs H Q E := fun {vs H Q E} h => by
    obtain ⟨p, q, l0, l1, h0, h1, rfl, ep, eq, va, hn, k⟩ := h
    have := va.kl1
    have := va.kh1
    have : (2 : Int) ^ 0 = 1 := rfl
    omega
  exact FA.ok (k := 1) sc__least_above (fun vs H Q E h => (no h).elim) (fun cdv A outer s H vs Q E hr h => (no h).elim)
theorem rec_both {P : Program} {w : World} {K : PySem.W.Frag} {mg : Str → Option Value} {base : Heap} (T : Txt K mg) {fd__least_above fd__least_from : FuncData}
    (FA : FunD K d__least_above.name d__least_above.qual d__least_above.params d__least_above.body d__least_above.scope (d__least_above.dvs K) (d__least_above.kws K) (He.fAd K d__least_above.at_) fd__least_above) (FF : FunD K d__least_from.name d__least_from.qual d__least_from.params d__least_from.body d__least_from.scope (d__least_from.dvs K) (d__least_from.kws K) (He.fAd K d__least_from.at_) fd__least_from)
    (ba : Binds K fd__least_above ["low", "high"] []) (bf : Binds K fd__least_from ["low", "high"] []) : ∀ n : Nat, FnOk P w K mg base CX0 (2 * n + 2) (He.ga K "_least_above") fd__least_above ["low", "high"] (spLA n)
  | 0 => rec_0 FA
  | n + 1 => rec_la T FA bf n (rec_lf T FF ba n (rec_both T FA FF ba bf n))
theorem ok__least_above {P : Program} {w : World} {K : PySem.W.Frag} {mg : Str → Option Value} {base : Heap} (T : Txt K mg) : ∃ fd, FnOk P w K mg base CX0 118 (He.ga K "_least_above") fd ["low", "high"] sp__least_above ∧ Binds K fd ["low", "high"] [] ∧ FunD K d__least_above.name d__least_above.qual d__least_above.params d__least_above.body d__least_above.scope (d__least_above.dvs K) (d__least_above.kws K) (He.fAd K d__least_above.at_) fd := by
  obtain ⟨fa, FA⟩ := T.f__least_above
  obtain ⟨ff, FF⟩ := T.f__least_from
  have ba : Binds K fa ["low", "high"] [] := FA.bindsN fun _ _ _ _ _ _ us hl => match us, hl with | [_, _], _ => rfl
  have bf : Binds K ff ["low", "high"] [] := FF.bindsN fun _ _ _ _ _ _ us hl => match us, hl with | [_, _], _ => rfl
  exact ⟨fa, rec_both T FA FF ba bf 58, ba, FA⟩
theorem ok__least_from {P : Program} {w : World} {K : PySem.W.Frag} {mg : Str → Option Value} {base : Heap} (T : Txt K mg) : ∃ fd, FnOk P w K mg base CX0 117 (He.ga K "_least_from") fd ["low", "high"] sp__least_from ∧ Binds K fd ["low", "high"] [] ∧ FunD K d__least_from.name d__least_from.qual d__least_from.params d__least_from.body d__least_from.scope (d__least_from.dvs K) (d__least_from.kws K) (He.fAd K d__least_from.at_) fd := by
  obtain ⟨fa, FA⟩ := T.f__least_above
  obtain ⟨ff, FF⟩ := T.f__least_from
  have ba : Binds K fa ["low", "high"] [] := FA.bindsN fun _ _ _ _ _ _ us hl => match us, hl with | [_, _], _ => rfl
  have bf : Binds K ff ["low", "high"] [] := FF.bindsN fun _ _ _ _ _ _ us hl => match us, hl with | [_, _], _ => rfl
  exact ⟨ff, rec_lf T FF ba 57 (rec_both T FA FF ba bf 57), bf, FF⟩

theorem sc_parted : FnScope ["one", "other", "first", "low", "high", "begins", "ends"] ["one", "other"] (defScope s_parted) := ⟨rfl, rfl, rfl, by decide +kernel, rfl, by decide +kernel, by decide +kernel⟩
theorem ok_parted {P : Program} {w : World} {K : PySem.W.Frag} {mg : Str → Option Value} {base : Heap} (T : Txt K mg) : ∃ fd, FnOk P w K mg base CX0 119 (He.ga K "parted") fd ["one", "other"] (sp_parted K) ∧ Binds K fd ["one", "other"] [] ∧ FunD K d_parted.name d_parted.qual d_parted.params d_parted.body d_parted.scope (d_parted.dvs K) (d_parted.kws K) (He.fAd K d_parted.at_) fd := by
  obtain ⟨fd__least_from, G__least_from, b__least_from, F__least_from⟩ := ok__least_from (P := P) (w := w) (base := base) T
  obtain ⟨fd__least_above, G__least_above, b__least_above, F__least_above⟩ := ok__least_above (P := P) (w := w) (base := base) T
  obtain ⟨fd_Drum_size, G_Drum_size, b_Drum_size, F_Drum_size⟩ := ok_Drum_size (P := P) (w := w) (base := base) T
  obtain ⟨fd_Drum_first, G_Drum_first, b_Drum_first, F_Drum_first⟩ := ok_Drum_first (P := P) (w := w) (base := base) T
  obtain ⟨fd_Drumu__equ_, G_Drumu__equ_, b_Drumu__equ_, F_Drumu__equ_⟩ := ok_Drumu__equ_ (P := P) (w := w) (base := base) T
  obtain ⟨fd__check_drum, G__check_drum, b__check_drum, F__check_drum⟩ := ok__check_drum (P := P) (w := w) (base := base) T
  obtain ⟨fd, F⟩ := T.f_parted
  refine ⟨fd, ?_, F.bindsN fun _ _ _ _ _ _ us hl => match us, hl with | [_, _], _ => rfl, F⟩
  refine F.ok (k := 118) sc_parted (fun vs H Q E h => ?_) (fun cdv A outer s H vs Q E hr h => ?_)
  · obtain ⟨p, q, f, s, g, t, rfl, _⟩ := h
    rfl
  · obtain ⟨p, q, f, s, g, t, rfl, d, d', k⟩ := h
    refine ⟨_, PSs.nox (pss_cons (ps_expr (pe_call G__check_drum (hr.mono (by decide)) rfl T.g__check_drum T.k__check_drum b__check_drum .nil pass0 (pa_cons pe_str (pa_cons (pv 0) pa_nil))))
      (pss_cons (ps_expr (pe_call G__check_drum (hr.mono (by decide)) rfl T.g__check_drum T.k__check_drum b__check_drum .nil pass0 (pa_cons pe_str (pa_cons (pv 1) pa_nil))))
      (pss_cons (ps_if (pt_cmpR (op_eqI G_Drumu__equ_ T.m_Drumu__equ_ b_Drumu__equ_ (hr.mono (by decide))) (pv 0) (pv 1) (nomark _)) (pss_one (ps_ret pe_non)) pss_nil)
      (pss_cons (ps_set (i := 2) sc_parted.nd rfl (Or.inl rfl) (pe_meth0 (pv 0) T.cl_Drum T.m_Drum_first G_Drum_first (hr.mono (by decide)) b_Drum_first .nil pass0))
      (pss_cons (ps_if (pt_cmpR op_ne (pv 2) (pe_meth0 (pv 1) T.cl_Drum T.m_Drum_first G_Drum_first (hr.mono (by decide)) b_Drum_first .nil pass0) (nomark _)) (pss_one (ps_ret (pe_callB (cl_min rfl) (by rfl) T.z_min (by decide +kernel) (pa_cons (pv 2) (pa_cons (pe_meth0 (pv 1) T.cl_Drum T.m_Drum_first G_Drum_first (hr.mono (by decide)) b_Drum_first .nil pass0) pa_nil))))) pss_nil)
      (pss_cons (ps_asg (pe_callB cr_sorted (by rfl) T.z_sorted (by decide +kernel) (pa_cons (pe_lst (pa_cons (pe_meth (pv 0) T.cl_Drum T.m_Drum_size G_Drum_size (hr.mono (by decide)) b_Drum_size .nil pass0 (pa_cons pe_int pa_nil)) (pa_cons (pe_meth (pv 1) T.cl_Drum T.m_Drum_size G_Drum_size (hr.mono (by decide)) b_Drum_size .nil pass0 (pa_cons pe_int pa_nil)) pa_nil))) pa_nil)) (pg_unl rfl (pgs_cons (pg_name (i := 3) sc_parted.nd rfl (Or.inl rfl)) (pgs_cons (pg_name (i := 4) sc_parted.nd rfl (Or.inl rfl)) pgs_nil))))
      (pss_cons (ps_set (i := 5) sc_parted.nd rfl (Or.inl rfl) (pe_ix ix_tup (pe_call G__least_above (hr.mono (by decide)) rfl T.g__least_above T.k__least_above b__least_above .nil pass0 (pa_cons (pe_tup (pa_cons (pv 2) (pa_cons (pv 4) pa_nil))) (pa_cons (pe_tup (pa_cons (pv 2) (pa_cons (pv 3) pa_nil))) pa_nil))) pe_int (fun _ _ => rfl)))
      (pss_cons (ps_set (i := 6) sc_parted.nd rfl (Or.inl rfl) (pe_ix ix_tup (pe_call G__least_from (hr.mono (by decide)) rfl T.g__least_from T.k__least_from b__least_from .nil pass0 (pa_cons (pe_tup (pa_cons (pv 2) (pa_cons (pv 4) pa_nil))) (pa_cons (pe_tup (pa_cons (pv 2) (pa_cons (pv 3) pa_nil))) pa_nil))) pe_int (fun _ _ => rfl)))
      (pss_one (ps_ret (pe_op op_add (pv 2) (pe_callB (cl_min rfl) (by rfl) T.z_min (by decide +kernel) (pa_cons (pv 5) (pa_cons (pe_op op_sub (pv 6) pe_int) pa_nil)))))))))))))), ?_⟩
    show (_ : TS) _ [some (.ref p), some (.ref q), none, none, none, none, none] _
    try dsimp only [nk]
    have f1 := d.f1
    have f2 := d.f2
    have s0 := d.s0
    have s2 := d.s2
    have t0 := d'.s0
    have t2 := d'.s2
    walk_at "rd"
    refine y_cdrum d ?_
    walk_at "rd"
    refine y_cdrum d' ?_
    walk_at "rd"
    refine x_eqI d d' (y_deq d d' ⟨_, rfl, ?_⟩)
    walk_at "rd"
    refine x_ite (p := f = g ∧ s = t) (fun c => ?_) (fun c => ?_)
    · walk_at "rd"
      exact k _ _ (.inl ⟨c.1, c.2, rfl⟩) fun _ _ z => z
    · walk_at "rd"
      refine x_iteN (p := f = g) (fun e => ?_) (fun e => ?_)
      · walk_at "rd"
        exact k _ _ (.inr (.inl ⟨e, rfl⟩)) fun _ _ z => z
      · have ne : s ≠ t := fun z => c ⟨e, z⟩
        subst e
        walk_at "rd"
        intro p1 hp1
        walk_at "rd"
        refine x_sortN2 upd_same fun r1 hr1 => ?_
        walk_at "rd"
        refine x_unl upd_same rfl ?_
        have e1 : min (f + 1 * s) (f + 1 * t) = f + min s t := by omega
        have e2 : max (f + 1 * s) (f + 1 * t) = f + max s t := by omega
        rw [e1, e2]
        have m0 : 0 ≤ min s t := by omega
        have m1 : min s t < max s t := by omega
        have m2 : max s t < 10 ^ 15 := by omega
        generalize hlo : min s t = lo at *
        generalize hhi : max s t = hi at *
        have va := va_part f1 m0 m1 (by omega) (by omega)
        have vf := vf_part f1 m0 m1 (by omega) (by omega)
        walk_at "rd"
        intro p2 hp2
        walk_at "rd"
        intro p3 hp3
        walk_at "rd"
        refine y_la (at_upd hp3 upd_same) upd_same va (by omega) fun tt b r2 H2 la s2' e3 => ?_
        walk_at "rd"
        intro p4 hp4
        walk_at "rd"
        intro p5 hp5
        walk_at "rd"
        refine y_lf (by decide) (at_upd hp5 upd_same) upd_same vf (fun w a1 a2 a3 => ?_) fun u e r3 H3 lf s3' e4 => ?_
        · have : w = 1 := by
            have : w < 2 := by
              apply Classical.byContradiction
              intro c
              have : 1 * (f + hi) ≤ (w - 1) * (f + hi) := Int.mul_le_mul_of_nonneg_right (by omega) (by omega)
              omega
            have : 0 < w := by
              apply Classical.byContradiction
              intro c
              have : w * (f + hi) ≤ 0 * (f + hi) := Int.mul_le_mul_of_nonneg_right (by omega) (by omega)
              omega
            omega
          subst this
          omega
        · walk_at "rd"
          exact k _ _ (.inr (.inr ⟨rfl, ne, min b (e - 1), by rw [hlo, hhi]; exact ⟨tt, b, u, e, la, lf, rfl⟩, rfl⟩)) ((((((same_upd hp1).trans (same_upd hr1)).trans (same_upd hp2)).trans (same_upd hp3)).trans s2').trans (((same_upd hp4).trans (same_upd hp5)).trans s3'))
theorem sc_alike : FnScope ["one", "other", "length", "cell"] ["one", "other", "length"] (defScope s_alike) := ⟨rfl, rfl, rfl, by decide +kernel, rfl, by decide +kernel, by decide +kernel⟩
theorem ok_alike {P : Program} {w : World} {K : PySem.W.Frag} {mg : Str → Option Value} {base : Heap} (T : Txt K mg) : ∃ fd, FnOk P w K mg base CX0 120 (He.ga K "alike") fd ["one", "other", "length"] (sp_alike K) ∧ Binds K fd ["one", "other", "length"] [] ∧ FunD K d_alike.name d_alike.qual d_alike.params d_alike.body d_alike.scope (d_alike.dvs K) (d_alike.kws K) (He.fAd K d_alike.at_) fd := by
  obtain ⟨fd_check_length, G_check_length, b_check_length, F_check_length⟩ := ok_check_length (P := P) (w := w) (base := base) T
  obtain ⟨fd_parted, G_parted, b_parted, F_parted⟩ := ok_parted (P := P) (w := w) (base := base) T
  obtain ⟨fd, F⟩ := T.f_alike
  refine ⟨fd, ?_, F.bindsN fun _ _ _ _ _ _ us hl => match us, hl with | [_, _, _], _ => rfl, F⟩
  refine F.ok (k := 119) sc_alike (fun vs H Q E h => ?_) (fun cdv A outer s H vs Q E hr h => ?_)
  · obtain ⟨p, q, f, s, g, t, n, rfl, _⟩ := h
    rfl
  · obtain ⟨p, q, f, s, g, t, n, rfl, d, d', n1, k⟩ := h
    refine ⟨_, PSs.nox (pss_cons (ps_set (i := 3) sc_alike.nd rfl (Or.inl rfl) (pe_call G_parted (hr.mono (by decide)) rfl T.g_parted T.k_parted b_parted .nil pass0 (pa_cons (pv 0) (pa_cons (pv 1) pa_nil))))
      (pss_cons (ps_expr (pe_call G_check_length (hr.mono (by decide)) rfl T.g_check_length T.k_check_length b_check_length .nil pass0 (pa_cons (pv 2) pa_nil)))
      (pss_one (ps_ret (pe_or (pe_cmpR cp_isN (pv 3) pe_non (nomark _)) (pe_one (pe_cmpR op_ge (pv 3) (pv 2) (nomark _)))))))), ?_⟩
    show (_ : TS) _ [some (.ref p), some (.ref q), some (.int n), none] _
    try dsimp only [nk]
    walk_at "rd"
    refine y_parted d d' fun v H' pv sm => ?_
    walk_at "rd"
    rcases pv with ⟨e1, e2, rfl⟩ | ⟨e1, rfl⟩ | ⟨e1, e2, c, pc, rfl⟩
    · walk_at "rd"
      exact k _ _ _ (.inl ⟨e1, e2, rfl⟩) (fun _ h => nomatch h) (fun _ => rfl) sm
    · walk_at "rd"
      exact k _ _ _ (.inr (.inl ⟨e1, rfl⟩)) (fun c h => by cases h; rfl) (fun h => nomatch h) sm
    · walk_at "rd"
      exact k _ _ _ (.inr (.inr ⟨e1, e2, c, pc, rfl⟩)) (fun c h => by cases h; rfl) (fun h => nomatch h) sm
theorem sc_known_from : FnScope ["drum", "first", "step", "cells", "other"] ["drum", "first", "step"] (defScope s_known_from) := ⟨rfl, rfl, rfl, by decide +kernel, rfl, by decide +kernel, by decide +kernel⟩
theorem ok_known_from {P : Program} {w : World} {K : PySem.W.Frag} {mg : Str → Option Value} {base : Heap} (T : Txt K mg) : ∃ fd, FnOk P w K mg base CX0 120 (He.ga K "known_from") fd ["drum", "first", "step"] (sp_known_from K) ∧ Binds K fd ["drum", "first", "step"] [] ∧ FunD K d_known_from.name d_known_from.qual d_known_from.params d_known_from.body d_known_from.scope (d_known_from.dvs K) (d_known_from.kws K) (He.fAd K d_known_from.at_) fd := by
  obtain ⟨fd__drums_till, G__drums_till, b__drums_till, F__drums_till⟩ := ok__drums_till (P := P) (w := w) (base := base) T
  obtain ⟨fd_parted, G_parted, b_parted, F_parted⟩ := ok_parted (P := P) (w := w) (base := base) T
  obtain ⟨fd_Drumu__equ_, G_Drumu__equ_, b_Drumu__equ_, F_Drumu__equ_⟩ := ok_Drumu__equ_ (P := P) (w := w) (base := base) T
  obtain ⟨fd__check_tried, G__check_tried, b__check_tried, F__check_tried⟩ := ok__check_tried (P := P) (w := w) (base := base) T
  obtain ⟨fd__check_drum, G__check_drum, b__check_drum, F__check_drum⟩ := ok__check_drum (P := P) (w := w) (base := base) T
  obtain ⟨fd, F⟩ := T.f_known_from
  refine ⟨fd, ?_, F.bindsN fun _ _ _ _ _ _ us hl => match us, hl with | [_, _, _], _ => rfl, F⟩
  refine F.ok (k := 119) sc_known_from (fun vs H Q E h => ?_) (fun cdv A outer s H vs Q E hr h => ?_)
  · obtain ⟨p, f, s, F, S, rfl, _⟩ := h
    rfl
  · obtain ⟨p, f, s, F, S, rfl, d, h1, h2, h3, h4, k⟩ := h
    refine ⟨_, PSs.nox (pss_cons (ps_expr (pe_call G__check_drum (hr.mono (by decide)) rfl T.g__check_drum T.k__check_drum b__check_drum .nil pass0 (pa_cons pe_str (pa_cons (pv 0) pa_nil))))
      (pss_cons (ps_expr (pe_call G__check_tried (hr.mono (by decide)) rfl T.g__check_tried T.k__check_tried b__check_tried .nil pass0 (pa_cons (pv 1) (pa_cons (pv 2) pa_nil))))
      (pss_cons (ps_setLc (i := 3) (own := [("other", 4)]) rfl sc_known_from.nd rfl rfl (sw_true rfl rfl rfl (by decide +kernel)) (pi_list (pe_call G__drums_till (hr.mono (by decide)) rfl T.g__drums_till T.k__drums_till b__drums_till .nil pass0 (pa_cons (pv 1) (pa_cons (pv 2) pa_nil)))) (blkOk_by (own := [("other", 4)]) (N := ["drum", "first", "step", "cells", "other"]) (sc := defScope s_known_from) (by decide +kernel)) (fun _ _ _ _ _ => (pg_name (i := 4) sc_known_from.nd rfl (Or.inl rfl))) (fun _ _ _ _ _ => (pts_one (pt_cmpR (op_neII G_Drumu__equ_ T.m_Drumu__equ_ T.w_Drum.1 T.w_Drum.2 b_Drumu__equ_ (hr.mono (by decide))) (pv 4) (pv 0) (nomark _)))) (fun _ _ _ _ _ => (pe_call G_parted (hr.mono (by decide)) rfl T.g_parted T.k_parted b_parted .nil pass0 (pa_cons (pv 0) (pa_cons (pv 4) pa_nil)))))
      (pss_one (ps_ret (pe_op op_add (pe_callBK (cr_maxDf (K := K) rfl rfl hr.units) (by rfl) T.z_max (by decide +kernel) (pa_cons (pv 3) pa_nil) (pk_cons pe_int pk_nil)) pe_int)))))), ?_⟩
    show (_ : TS) _ [some (.ref p), some (.int F), some (.int S), none, none] _
    try dsimp only [nk]
    have f1 := d.f1
    have s0 := d.s0
    walk_at "rd"
    refine y_cdrum d ?_
    walk_at "rd"
    refine y_ctried h1 (by omega) h3 (by omega) ?_
    walk_at "rd"
    refine y_till h1 h2 h3 h4 fun l H1 xs s1 el dl ll => ?_
    have d1 := d.same s1
    refine x_lcL rfl el (by omega) (fun i acc H' => Same H1 H' ∧ ∃ ns : List Int, acc = ns.map V.int ∧ (∀ n ∈ ns, ∃ g t, Bds F S g t ∧ ¬ (f = g ∧ s = t) ∧ FstD f s g t n) ∧ ∀ (j : Nat) (q : Addr) (g t : Int), j < i → xs[j]? = some (.ref q) → Drm K H1 q g t → ¬ (f = g ∧ s = t) → ∃ n ∈ ns, FstD f s g t n)
      (fun D hD => ⟨same_upd hD, [], rfl, fun n hn => by simp at hn, fun j q g t hj => by omega⟩) (fun i acc H' z => z.1 _ _ el) ?_ ?_
    · rintro D i x acc H2 hD hi hx ⟨s2, ns, rfl, a1, a2⟩ eD la li
      obtain ⟨q, g, t, rfl, dq, bq⟩ := dl.1 x (List.mem_of_getElem? hx)
      have dq1 := dq
      have dq := dq.same s2
      have d2 := d1.same s2
      have g1 := dq.f1
      have t0 := dq.s0
      walk_at "rd"
      refine x_neII dq d2 ?_
      refine y_deq dq d2 ⟨_, rfl, ?_⟩
      walk_at "rd"
      refine x_bq (fun e => ?_) (fun ne => ?_)
      · walk_at "rd"
        refine x_lcN eD la (Nat.le_succ _) ⟨s2, ns, rfl, a1, fun j q' g' t' hj hq' dq' ne' => ?_⟩
        by_cases w : j = i
        · subst w
          rw [hx] at hq'
          cases hq'
          obtain ⟨e1, e2⟩ := Drm.uniq dq1 dq'
          exact absurd ⟨by omega, by omega⟩ ne'
        · exact a2 j q' g' t' (by omega) hq' dq' ne'
      · walk_at "rd"
        refine y_parted d2 dq fun v H3 pv s3 => ?_
        have nE : ¬ (f = g ∧ s = t) := fun z => ne ⟨z.1.symm, z.2.symm⟩
        rcases fst_part f1 s0 g1 t0 pv with ⟨e1, e2, _⟩ | ⟨_, c, rfl, fd⟩
        · exact absurd ⟨e1, e2⟩ nE
        · refine x_lcA (s3 _ _ eD) la li ⟨sameD hD (s2.trans s3), ns ++ [c], by simp, fun n hn => ?_, fun j q' g' t' hj hq' dq' ne' => ?_⟩
          · rcases List.mem_append.mp hn with hn | hn
            · exact a1 n hn
            · have e : n = c := by simpa using hn
              subst e
              exact ⟨g, t, bq, nE, fd⟩
          · by_cases w : j = i
            · subst w
              rw [hx] at hq'
              cases hq'
              obtain ⟨e1, e2⟩ := Drm.uniq dq1 dq'
              subst e1; subst e2
              exact ⟨c, by simp, fd⟩
            · obtain ⟨n, hn, hf⟩ := a2 j q' g' t' (by omega) hq' dq' ne'
              exact ⟨n, List.mem_append_left _ hn, hf⟩
    · rintro D acc H2 hD eD ⟨s2, ns, rfl, a1, a2⟩
      walk_at "rd"
      refine x_maxDf eD fun m hm => ?_
      walk_at "rd"
      refine k _ H2 ⟨?_, fun g t b ne => ?_, ?_⟩ (s1.trans s2)
      · rcases hm with ⟨_, rfl⟩ | ⟨hm, _⟩
        · omega
        · obtain ⟨g, t, _, _, fd⟩ := a1 m hm
          have := fd.1
          omega
      · obtain ⟨q, hq, dq⟩ := dl.2 g t b
        obtain ⟨j, hj⟩ := List.getElem?_of_mem hq
        have jl : j < xs.length := by
          apply Classical.byContradiction
          intro z
          rw [List.getElem?_eq_none (by omega)] at hj
          cases hj
        obtain ⟨n, hn, fd⟩ := a2 j q g t jl hj dq ne
        rcases hm with ⟨e, _⟩ | ⟨_, mx⟩
        · rw [e] at hn; simp at hn
        · have := mx n hn
          exact ⟨n, by omega, fd⟩
      · rcases hm with ⟨_, rfl⟩ | ⟨hm, _⟩
        · exact .inl rfl
        · obtain ⟨g, t, b, ne, fd⟩ := a1 m hm
          exact .inr ⟨g, t, b, ne, by rw [show m + 1 - 1 = m by omega]; exact fd⟩
abbrev spLaw := sp_law
theorem sc_law : FnScope ["_law_script", "_law_cell", "_law_source", "_law_most", "_law_wide", "_law_first_here", "_law_step_here", "_law_mine", "_law_due", "_law_others", "_law_f", "_law_s", "_law_there", "_law_j", "_law_drum_here", "_law_far", "_law_same"] ["_law_script"] (defScope s_law) := ⟨rfl, rfl, rfl, by decide +kernel, rfl, by decide +kernel, by decide +kernel⟩
theorem ok_law {P : Program} {w : World} {K : PySem.W.Frag} {mg : Str → Option Value} {base : Heap} (T : Txt K mg) {f : Addr} {fd : FuncData} (F : FunD K d_law.name d_law.qual d_law.params d_law.body d_law.scope (d_law.dvs K) (d_law.kws K) f fd) : FnOk P w K mg base CX0 121 f fd ["_law_script"] (spLaw K) := by
  obtain ⟨fd__law_cell_at, G__law_cell_at, b__law_cell_at, F__law_cell_at⟩ := ok__law_cell_at (P := P) (w := w) (base := base) T
  obtain ⟨fd_alike, G_alike, b_alike, F_alike⟩ := ok_alike (P := P) (w := w) (base := base) T
  obtain ⟨fd_Drumu__initu_, G_Drumu__initu_, b_Drumu__initu_, F_Drumu__initu_⟩ := ok_Drumu__initu_ (P := P) (w := w) (base := base) T
  obtain ⟨fd_Drum_step, G_Drum_step, b_Drum_step, F_Drum_step⟩ := ok_Drum_step (P := P) (w := w) (base := base) T
  obtain ⟨fd_Drum_first, G_Drum_first, b_Drum_first, F_Drum_first⟩ := ok_Drum_first (P := P) (w := w) (base := base) T
  obtain ⟨fd_known_from, G_known_from, b_known_from, F_known_from⟩ := ok_known_from (P := P) (w := w) (base := base) T
  obtain ⟨fd__law_under, G__law_under, b__law_under, F__law_under⟩ := ok__law_under (P := P) (w := w) (base := base) T
  obtain ⟨fd__law_next, G__law_next, b__law_next, F__law_next⟩ := ok__law_next (P := P) (w := w) (base := base) T
  obtain ⟨fd__law_source_of, G__law_source_of, b__law_source_of, F__law_source_of⟩ := ok__law_source_of (P := P) (w := w) (base := base) T
  have kr_known_from : KBn K fd_known_from ["drum", "first", "step"] 0 ["step", "first", "drum"] (fun us ws => us ++ ws.reverse) (fun vs zs => vs ++ zs.reverse) := kbn F_known_from (fun _ _ _ _ _ _ us ws h1 h2 => match us, ws, h1, h2 with | [], [_, _, _], _, _ => rfl) rel_rev
  refine F.ok (k := 120) sc_law (fun vs H Q E h => ?_) (fun cdv A outer s H vs Q E hr h => ?_)
  · obtain ⟨a, ns, rfl, _⟩ := h
    rfl
  · obtain ⟨a, ns, rfl, hS, hlen, k⟩ := h
    refine ⟨_, PSs.nox (pss_cons (ps_for PassesOwn.never rfl (pi_list (pe_op op_cat (pe_lst (pa_cons (pe_call G__law_cell_at (hr.mono (by decide)) rfl T.g__law_cell_at T.k__law_cell_at b__law_cell_at .nil pass0 (pa_cons (pv 0) (pa_cons pe_int pa_nil))) pa_nil)) (pe_slice sl_list (pv 0) (po_some pe_int) (po_some pe_int)))) (pg_name (i := 1) sc_law.nd rfl (Or.inl rfl)) (pss_cons (ps_set (i := 2) sc_law.nd rfl (Or.inl rfl) (pe_call G__law_source_of (hr.mono (by decide)) rfl T.g__law_source_of T.k__law_source_of b__law_source_of .nil pass0 (pa_cons (pv 1) pa_nil)))
      (pss_cons (ps_set (i := 3) sc_law.nd rfl (Or.inl rfl) (pe_op op_add pe_int (pe_call G__law_next (hr.mono (by decide)) rfl T.g__law_next T.k__law_next b__law_next .nil pass0 (pa_cons (pv 2) (pa_cons pe_int pa_nil)))))
      (pss_cons (ps_set (i := 4) sc_law.nd rfl (Or.inl rfl) (pe_call G__law_next (hr.mono (by decide)) rfl T.g__law_next T.k__law_next b__law_next .nil pass0 (pa_cons (pv 2) (pa_cons pe_int pa_nil))))
      (pss_cons (ps_set (i := 5) sc_law.nd rfl (Or.inr rfl) (pe_op op_add pe_int (pe_call G__law_next (hr.mono (by decide)) rfl T.g__law_next T.k__law_next b__law_next .nil pass0 (pa_cons (pv 2) (pa_cons (pe_op op_add (pv 3) pe_int) pa_nil)))))
      (pss_cons (ps_set (i := 6) sc_law.nd rfl (Or.inr rfl) (pe_call G__law_next (hr.mono (by decide)) rfl T.g__law_next T.k__law_next b__law_next .nil pass0 (pa_cons (pv 2) (pa_cons (pe_op op_add (pv 4) pe_int) pa_nil))))
      (pss_cons (ps_set (i := 7) sc_law.nd rfl (Or.inr rfl) (pe_call G__law_under (hr.mono (by decide)) rfl T.g__law_under T.k__law_under b__law_under .nil pass0 (pa_cons (pv 5) (pa_cons (pv 6) (pa_cons pe_int pa_nil)))))
      (pss_cons (ps_set (i := 8) sc_law.nd rfl (Or.inr rfl) pe_int)
      (pss_cons (ps_set (i := 9) sc_law.nd rfl (Or.inl rfl) (pe_lst pa_nil))
      (pss_cons (ps_for PassesOwn.never rfl (pi_rangeW (by rfl) T.z_range (pa_cons pe_int (pa_cons (pe_op op_add (pv 3) pe_int) pa_nil))) (pg_name (i := 10) sc_law.nd rfl (Or.inr rfl)) (pss_one (ps_set (i := 9) sc_law.nd rfl (Or.inl rfl) (pe_op op_cat (pv 9) (pe_lc (own := [("_law_s", 11)]) rfl sc_law.nd (pi_range1 rfl T.z_range (pa_cons (pe_op op_add (pv 4) pe_int) pa_nil)) (blkOk_by (own := [("_law_s", 11)]) (N := ["_law_script", "_law_cell", "_law_source", "_law_most", "_law_wide", "_law_first_here", "_law_step_here", "_law_mine", "_law_due", "_law_others", "_law_f", "_law_s", "_law_there", "_law_j", "_law_drum_here", "_law_far", "_law_same"]) (sc := defScope s_law) (by decide +kernel)) (fun _ _ _ _ _ => (pg_name (i := 11) sc_law.nd rfl (Or.inl rfl))) (fun _ _ _ _ _ => (pts_one (pt_cmpR (op_neDK (K := K) rfl hr.units) (pe_tup (pa_cons (pv 10) (pa_cons (pv 11) pa_nil))) (pe_tup (pa_cons (pv 5) (pa_cons (pv 6) pa_nil))) (nomark _)))) (fun _ _ _ _ _ => (pe_tup (pa_cons (pv 10) (pa_cons (pv 11) pa_nil)))))))))
      (pss_cons (ps_for PassesOwn.never rfl (pi_list (pv 9)) (pg_tup rfl (pgs_cons (pg_name (i := 10) sc_law.nd rfl (Or.inr rfl)) (pgs_cons (pg_name (i := 11) sc_law.nd rfl (Or.inl rfl)) pgs_nil))) (pss_cons (ps_set (i := 12) sc_law.nd rfl (Or.inr rfl) (pe_call G__law_under (hr.mono (by decide)) rfl T.g__law_under T.k__law_under b__law_under .nil pass0 (pa_cons (pv 10) (pa_cons (pv 11) (pa_cons pe_int pa_nil)))))
      (pss_one (ps_set (i := 8) sc_law.nd rfl (Or.inr rfl) (pe_callB (cl_max rfl) (by rfl) T.z_max (by decide +kernel) (pa_cons (pv 8) (pa_cons (pe_op op_add pe_int (pe_ix ix_list (pe_lc (own := [("_law_j", 13)]) rfl sc_law.nd (pi_range1 rfl T.z_range (pa_cons pe_int pa_nil)) (blkOk_by (own := [("_law_j", 13)]) (N := ["_law_script", "_law_cell", "_law_source", "_law_most", "_law_wide", "_law_first_here", "_law_step_here", "_law_mine", "_law_due", "_law_others", "_law_f", "_law_s", "_law_there", "_law_j", "_law_drum_here", "_law_far", "_law_same"]) (sc := defScope s_law) (by decide +kernel)) (fun _ _ _ _ _ => (pg_name (i := 13) sc_law.nd rfl (Or.inl rfl))) (fun _ _ _ _ _ => (pts_one (pt_cmpR (op_neDK (K := K) rfl hr.units) (pe_ix (ix_listK (K := K) rfl) (pv 7) (pv 13) (fun _ _ => rfl)) (pe_ix (ix_listK (K := K) rfl) (pv 12) (pv 13) (fun _ _ => rfl)) (nomark _)))) (fun _ _ _ _ _ => (pv 13))) pe_int (fun _ _ => rfl))) pa_nil)))))))
      (pss_cons (ps_set (i := 14) sc_law.nd rfl (Or.inr rfl) (pe_make T.mk_Drum G_Drumu__initu_ (hr.mono (by decide)) rfl T.g_Drum b_Drumu__initu_ .nil pass0 (pa_cons (pv 5) (pa_cons (pv 6) pa_nil))))
      (pss_cons (ps_if (PW.pt (pw_or (pt_cmpR op_ne (pe_call G_known_from (hr.mono (by decide)) rfl T.g_known_from T.k_known_from b_known_from .nil pass0 (pa_cons (pv 14) (pa_cons (pv 3) (pa_cons (pv 4) pa_nil)))) (pv 8) (nomark _)) (pw_or1 (pt_cmpR op_ne (pe_callN0 G_known_from (hr.mono (by decide)) rfl T.g_known_from T.k_known_from kr_known_from pass0 (pk_cons (pv 4) (pk_cons (pv 3) (pk_cons (pv 14) pk_nil)))) (pv 8) (nomark _))))) (pss_one (ps_ret pe_bl)) pss_nil)
      (pss_cons (ps_set (i := 15) sc_law.nd rfl (Or.inl rfl) (pe_make T.mk_Drum G_Drumu__initu_ (hr.mono (by decide)) rfl T.g_Drum b_Drumu__initu_ .nil pass0 (pa_cons (pe_op op_add pe_int (pv 5)) (pa_cons pe_int pa_nil))))
      (pss_cons (ps_if (PW.pt (pw_or (pt_cmpR op_ne (pe_call G_known_from (hr.mono (by decide)) rfl T.g_known_from T.k_known_from b_known_from .nil pass0 (pa_cons (pv 15) (pa_cons (pv 3) (pa_cons (pv 4) pa_nil)))) (pe_op op_add (pv 3) pe_int) (nomark _)) (pw_or1 (pt_cmpR (op_neD hr.units) (pe_tup (pa_cons (pe_meth0 (pv 15) T.cl_Drum T.m_Drum_first G_Drum_first (hr.mono (by decide)) b_Drum_first .nil pass0) (pa_cons (pe_meth0 (pv 15) T.cl_Drum T.m_Drum_step G_Drum_step (hr.mono (by decide)) b_Drum_step .nil pass0) pa_nil))) (pe_tup (pa_cons (pe_op op_add pe_int (pv 5)) (pa_cons pe_int pa_nil))) (nomark _))))) (pss_one (ps_ret pe_bl)) pss_nil)
      (pss_cons (ps_setLc (i := 16) (own := [("_law_f", 10), ("_law_s", 11)]) rfl sc_law.nd rfl rfl (sw_true rfl rfl rfl (by decide +kernel)) (pi_list (pv 9)) (blkOk_by (own := [("_law_f", 10), ("_law_s", 11)]) (N := ["_law_script", "_law_cell", "_law_source", "_law_most", "_law_wide", "_law_first_here", "_law_step_here", "_law_mine", "_law_due", "_law_others", "_law_f", "_law_s", "_law_there", "_law_j", "_law_drum_here", "_law_far", "_law_same"]) (sc := defScope s_law) (by decide +kernel)) (fun _ _ _ _ _ => (pg_tupK (K := K) (n := 2) rfl (pg_tup (n := 2) rfl (pgs_cons (pg_name (i := 10) sc_law.nd rfl (Or.inl rfl)) (pgs_cons (pg_name (i := 11) sc_law.nd rfl (Or.inl rfl)) pgs_nil))))) (fun _ _ _ _ _ => (pts_one (pt_val (pe_call G_alike (hr.mono (by decide)) rfl T.g_alike T.k_alike b_alike .nil pass0 (pa_cons (pv 14) (pa_cons (pe_make T.mk_Drum G_Drumu__initu_ (hr.mono (by decide)) rfl T.g_Drum b_Drumu__initu_ .nil pass0 (pa_cons (pv 10) (pa_cons (pv 11) pa_nil))) (pa_cons (pv 8) pa_nil))))))) (fun _ _ _ _ _ => pe_int))
      (pss_cons (ps_if (PW.pt (pw_or (pt_cmpR (op_neD hr.units) (pv 16) (pe_lst pa_nil) (nomark _)) (pw_or1 (pt_cmpR (op_neD hr.units) (pe_tup (pa_cons (pe_meth0 (pv 14) T.cl_Drum T.m_Drum_first G_Drum_first (hr.mono (by decide)) b_Drum_first .nil pass0) (pa_cons (pe_meth0 (pv 14) T.cl_Drum T.m_Drum_step G_Drum_step (hr.mono (by decide)) b_Drum_step .nil pass0) pa_nil))) (pe_tup (pa_cons (pv 5) (pa_cons (pv 6) pa_nil))) (nomark _))))) (pss_one (ps_ret pe_bl)) pss_nil)
      (pss_one (ps_if (pt_cmpR op_gt (pv 8) pe_int (nomark _)) (pss_cons (ps_setLc (i := 16) (own := [("_law_f", 10), ("_law_s", 11)]) rfl sc_law.nd rfl rfl (sw_true rfl rfl rfl (by decide +kernel)) (pi_list (pv 9)) (blkOk_by (own := [("_law_f", 10), ("_law_s", 11)]) (N := ["_law_script", "_law_cell", "_law_source", "_law_most", "_law_wide", "_law_first_here", "_law_step_here", "_law_mine", "_law_due", "_law_others", "_law_f", "_law_s", "_law_there", "_law_j", "_law_drum_here", "_law_far", "_law_same"]) (sc := defScope s_law) (by decide +kernel)) (fun _ _ _ _ _ => (pg_tupK (K := K) (n := 2) rfl (pg_tup (n := 2) rfl (pgs_cons (pg_name (i := 10) sc_law.nd rfl (Or.inl rfl)) (pgs_cons (pg_name (i := 11) sc_law.nd rfl (Or.inl rfl)) pgs_nil))))) (fun _ _ _ _ _ => (pts_one (pt_val (pe_call G_alike (hr.mono (by decide)) rfl T.g_alike T.k_alike b_alike .nil pass0 (pa_cons (pv 14) (pa_cons (pe_make T.mk_Drum G_Drumu__initu_ (hr.mono (by decide)) rfl T.g_Drum b_Drumu__initu_ .nil pass0 (pa_cons (pv 10) (pa_cons (pv 11) pa_nil))) (pa_cons (pe_op op_sub (pv 8) pe_int) pa_nil))))))) (fun _ _ _ _ _ => pe_int))
      (pss_one (ps_if (pt_cmpR (op_eqD hr.units) (pv 16) (pe_lst pa_nil) (nomark _)) (pss_one (ps_ret pe_bl)) pss_nil))) pss_nil)))))))))))))))))))
      (pss_one (ps_ret pe_bl))), ?_⟩
    show (_ : TS) _ [some (.ref a), none, none, none, none, none, none, none, none, none, none, none, none, none, none, none, none] _
    try dsimp only [nk]
    walk_at "rd"
    refine y_law_cell_at hS hlen (by decide) fun r0 => ?_
    walk_at "rd"
    intro l1 hl1
    walk_at "rd"
    refine x_slL ((same_upd hl1).seq hS) fun l2 hl2 => ?_
    refine x_cat (at_upd hl2 upd_same) upd_same (cells_len hlen) fun lp hlp => ?_
    walk_at "rd"
    refine x_forL upd_same (fun _ σ _ => ∃ v1 v2 v3 v4 v5 v6 v7 v8 v9 v10 v11 v12 v13 v14 v15 v16 : Option V, σ = [some (.ref a), v1, v2, v3, v4, v5, v6, v7, v8, v9, v10, v11, v12, v13, v14, v15, v16]) ⟨_, _, _, _, _, _, _, _, _, _, _, _, _, _, _, _, rfl⟩ ?_ ?_
    · rintro i x σ H hx ⟨v1, v2, v3, v4, v5, v6, v7, v8, v9, v10, v11, v12, v13, v14, v15, v16, rfl⟩ hL
      obtain ⟨z, rfl⟩ := cells_int (List.mem_of_getElem? hx)
      clear hx hl1 hl2 hlp
      generalize [V.int r0] ++ cutV (List.map V.int ns) (some 1) (some 3) = cells at *
      walk_at "rd"
      refine y_source_of fun q Hs hq ss src0 => ?_
      have hLs := ss _ _ hL
      have hne : lp ≠ q := ne_of_none hL hq
      walk_at "rd"
      refine y_next (by walk_at "src") (by omega) (by omega) (by omega) fun rm Hrm rm0 rm1 srcrm burm => ?_
      have bd_rm : Bd 200 rm := Bd.of rm0 (by omega)
      walk_at "rd"
      refine y_next (by walk_at "src") (by omega) (by omega) (by omega) fun rw Hrw rw0 rw1 srcrw burw => ?_
      have bd_rw : Bd 200 rw := Bd.of rw0 (by omega)
      walk_at "rd"
      refine y_next (by walk_at "src") (by omega) (by omega) (by omega) fun rf Hrf rf0 rf1 srcrf burf => ?_
      have bd_rf : Bd 200 rf := Bd.of rf0 (by omega)
      walk_at "rd"
      refine y_next (by walk_at "src") (by omega) (by omega) (by omega) fun rs Hrs rs0 rs1 srcrs burs => ?_
      have bd_rs : Bd 200 rs := Bd.of rs0 (by omega)
      walk_at "rd"
      have P := (show Hrs lp = some (.lst cells) by walk_at "at")
      have S := srcrs
      clear srcrs srcrf srcrw srcrm src0 burs burf burw burm hL hLs ss hq
      have f1 : 1 ≤ 1 + rf := by omega
      have f2 : 1 + rf ≤ 11 := by omega
      have g1 : 1 ≤ 1 + rm := by omega
      have g2 : 1 + rm ≤ 9 := by omega
      have t2 : rw ≤ 8 := by omega
      have s2 : rs ≤ 10 := by omega
      generalize 1 + rf = f at *
      generalize 1 + rm = F at *
      refine y_under f1 (by omega) rs0 (by omega) (by decide) (by decide) fun pm H1 xs s1 em lm um ⟨nm, om⟩ => ?_
      have S := S.same s1 ; have P := s1 _ _ P
      clear s1 nm om
      walk_at "rd"
      intro po hpo
      have S := S.upd (o := HO.lst []) hpo ; have P := at_upd (u := HO.lst []) hpo P ; have em := at_upd (u := HO.lst []) hpo em ; have um := um.same (same_upd (o := HO.lst []) hpo)
      have eo := upd_same (H := H1) (a := po) (o := HO.lst [])
      generalize upd H1 po (HO.lst []) = H2 at *
      walk_at "rd"
      clear hpo
      refine x_forR (fun i σ' H' => Same H2 H' ∧ ∃ (po' : Addr) (zs : List V) (x10 x11 x12 x13 x14 x15 x16 : Option V), σ' = [some (.ref a), some (.int z), some (.ref q), some (.int F), some (.int rw), some (.int f), some (.int rs), some (.ref pm), some (.int 1), some (.ref po'), x10, x11, x12, x13, x14, x15, x16] ∧ H' po' = some (.lst zs) ∧ zs.length ≤ i * 9 ∧ OtP H' f rs F rw (1 + (i : Nat)) 0 zs) ⟨fun _ _ z => z, po, [], _, _, _, _, _, _, _, rfl, eo, Nat.zero_le _, fun x hx => (by simp at hx), fun g t b c => (by unfold Bds at b; omega)⟩ ?_ ?_
      · rintro i σ' H3 hi ⟨s3, po', zs, z0, z1, z2, z3, z4, z5, z6, rfl, ez, lz, oz⟩
        walk_at "rd"
        refine x_lcR rfl (by omega) (fun j acc H' => Same H3 H' ∧ acc.length ≤ j ∧ OtP H' f rs F rw (1 + (i : Nat)) (j : Nat) (zs ++ acc)) (fun D hD => ⟨same_upd hD, Nat.zero_le _, by rw [List.append_nil]; exact oz.same (same_upd hD)⟩) ?_ ?_
        · rintro D j acc H4 hD hj ⟨s4, la', oa⟩ eD la li
          rw [show (0 : Int) + (j : Nat) = (j : Nat) by omega]
          walk_at "rd"
          intro q1 hq1
          walk_at "rd"
          intro q2 hq2
          refine x_neT2 (at_upd hq2 upd_same) upd_same ?_
          have sT := (same_upd (o := HO.tup [V.int (1 + (i : Nat)), V.int (j : Nat)]) hq1).trans (same_upd (o := HO.tup [V.int f, V.int rs]) hq2)
          generalize upd (upd H4 q1 (HO.tup [V.int (1 + (i : Nat)), V.int (j : Nat)])) q2 (HO.tup [V.int f, V.int rs]) = H5 at *
          walk_at "rd"
          refine x_bq (fun e => ?_) (fun ne => ?_)
          · walk_at "rd"
            refine x_lcN (sT _ _ eD) la (Nat.le_succ _) ⟨s4.trans sT, by omega, ?_⟩
            rw [show ((j + 1 : Nat) : Int) = (j : Nat) + 1 by omega]
            exact (oa.same sT).skip ⟨by omega, by omega⟩
          · walk_at "rd"
            intro r hr
            have ap := ((oa.same sT).same (same_upd (o := HO.tup [V.int (1 + (i : Nat)), V.int (j : Nat)]) hr)).app (q := r) upd_same (by unfold Bds; omega) (fun z => ne ⟨by omega, by omega⟩)
            rw [List.append_assoc] at ap
            refine x_lcA (at_upd hr (sT _ _ eD)) la li ⟨sameD hD ((s4.trans sT).trans (same_upd hr)), by simp; omega, ?_⟩
            rw [show ((j + 1 : Nat) : Int) = (j : Nat) + 1 by omega]
            exact ap.set (at_upd hr (sT _ _ eD))
        · rintro D acc H4 hD eD ⟨s4, la, oa⟩
          walk_at "rd"
          have sz : 1000 ≤ sizeLine := by decide
          refine x_cat (s4 _ _ ez) eD (by omega) fun pn hpn => ?_
          walk_at "rd"
          refine ⟨(s3.trans s4).trans (same_upd hpn), pn, zs ++ acc, _, _, _, _, _, _, _, rfl, upd_same, by rw [List.length_append]; omega, ?_⟩
          rw [show (1 : Int) + ((i + 1 : Nat) : Int) = 1 + (i : Nat) + 1 by omega]
          exact (oa.next (by omega)).same (same_upd hpn)
      · rintro σ' H3 ⟨s3, po', zs, z0, z1, z2, z3, z4, z5, z6, rfl, ez, lz, oz⟩
        have oz : OtP H3 f rs F rw (F + 1) 0 zs := by
          rw [show F + 1 = 1 + (((F + 1 - 1).toNat : Nat) : Int) by omega]
          exact oz
        have lz : zs.length ≤ 100 := by omega
        have S := S.same s3 ; have P := s3 _ _ P ; have em := s3 _ _ em ; have um := um.same s3
        clear s3 eo
        walk_at "rd"
        refine x_forL ez (fun i σ' H' => Same H3 H' ∧ ∃ (dv : Int) (x10 x11 x12 x13 x14 x15 x16 : Option V), σ' = [some (.ref a), some (.int z), some (.ref q), some (.int F), some (.int rw), some (.int f), some (.int rs), some (.ref pm), some (.int dv), some (.ref po'), x10, x11, x12, x13, x14, x15, x16] ∧ DuP H3 f rs F rw zs i dv) ⟨fun _ _ z => z, 1, _, _, _, _, _, _, _, rfl, by decide, fun k r g t hk => (by omega), .inl rfl⟩ ?_ ?_
        · rintro i x σ' H4 hx ⟨s4, dv, y0, y1, y2, y3, y4, y5, y6, rfl, du⟩ hL4
          obtain ⟨r, g, t, rfl, er, bd, ne⟩ := oz.1 x (List.mem_of_getElem? hx)
          have er4 := s4 _ _ er
          have b1 := bd.1 ; have b2 := bd.2.1 ; have b3 := bd.2.2.1 ; have b4 := bd.2.2.2
          have em4 := s4 _ _ em ; have um4 := um.same s4
          walk_at "rd"
          refine y_under b1 (by omega) b3 (by omega) (by decide) (by decide) fun pt H5 ys s5 et lt ut ⟨nt, ot⟩ => ?_
          have em5 := s5 _ _ em4 ; have um5 := um4.same s5
          obtain ⟨jx, jx1, jx2⟩ := un_ex (f := f) (s := rs) (g := g) (t := t) f1 rs0 b1 b3 ne
          have j40 : jx < 40 := by omega
          walk_at "rd"
          refine x_lcR rfl (by decide) (fun i acc H' => Same H5 H' ∧ ((acc = [] ∧ ∀ k : Nat, k < i → unD f rs k = unD g t k) ∨ ∃ (c : Int) (r : List V), acc = V.int c :: r ∧ 0 ≤ c ∧ c < i ∧ (∀ k : Nat, (k : Int) < c → unD f rs k = unD g t k) ∧ unD f rs c ≠ unD g t c)) (fun D0 hD => ⟨same_upd hD, .inl ⟨rfl, fun k hk => by omega⟩⟩) ?_ ?_
          · rintro D0 i' acc H6 hD hi ⟨s6, inv⟩ eD la li
            have hi : i' < 40 := hi
            have lm : xs.length = 40 := lm
            have lt : ys.length = 40 := lt
            obtain ⟨x, hx'⟩ : ∃ x, xs[i']? = some x := ⟨xs[i'], by simp [show i' < xs.length by omega]⟩
            obtain ⟨y, hy'⟩ : ∃ y, ys[i']? = some y := ⟨ys[i'], by simp [show i' < ys.length by omega]⟩
            rw [show (0 : Int) + (i' : Nat) = (i' : Nat) by omega]
            walk_at "rd"
            refine x_ixL (sql (s6 _ _ em5)) (atI_nat hx') ?_
            walk_at "rd"
            refine x_ixL (sql (s6 _ _ et)) (atI_nat hy') ?_
            refine x_neUn (um5.same s6 i' x hx') (ut.same s6 i' y hy') ?_
            walk_at "rd"
            refine x_iteN (p := unD f rs i' = unD g t i') (fun n => ?_) (fun e => ?_)
            · walk_at "rd"
              refine x_lcA eD la li ⟨sameD hD s6, .inr ?_⟩
              rcases inv with ⟨rfl, al⟩ | ⟨c, r, rfl, c0, c1, lo, at'⟩
              · exact ⟨i', [], rfl, by omega, by omega, fun k hk => al k (by omega), n⟩
              · exact ⟨c, _, rfl, c0, by omega, lo, at'⟩
            · walk_at "rd"
              refine x_lcN eD la (Nat.le_succ _) ⟨s6, ?_⟩
              rcases inv with ⟨rfl, al⟩ | ⟨c, r, rfl, c0, c1, lo, at'⟩
              · refine .inl ⟨rfl, fun k hk => ?_⟩
                by_cases w : k = i'
                · subst w; exact e
                · exact al k (by omega)
              · exact .inr ⟨c, r, rfl, c0, by omega, lo, at'⟩
          · rintro D0 acc H6 hD eD ⟨s6, inv⟩
            rcases inv with ⟨rfl, al⟩ | ⟨c, r', rfl, c0, c1, lo, at'⟩
            · exact absurd (al jx j40) jx2
            · have c2 : 1 ≤ c := by
                apply Classical.byContradiction
                intro w
                have : c = 0 := by omega
                subst this
                exact at' (un_zero f1 rs0 b1 b3)
              have fd : FstD f rs g t c := ⟨c2, fun j j0 j1 => by
                have h := lo j.toNat (by omega)
                rw [show ((j.toNat : Nat) : Int) = j by omega] at h
                exact h, at'⟩
              walk_at "rd"
              refine x_ixL (sql eD) (show atI (V.int c :: r') ((0 : Nat) : Int) = some (V.int c) from atI_nat rfl) ?_
              walk_at "rd"
              exact ⟨⟨(s4.trans s5).trans s6, _, _, _, _, _, _, _, _, rfl, du.step hx er bd ne fd⟩, (s4.trans (s5.trans s6)) _ _ ez⟩
        · rintro σ' H4 ⟨s4, dv, y0, y1, y2, y3, y4, y5, y6, rfl, du⟩
          have kn := du.kn oz
          have oz4 := oz.same s4 ; have ez4 := s4 _ _ ez
          have S := S.same s4 ; have P := s4 _ _ P
          have oz := oz4 ; have ez := ez4
          clear em um du s4 oz4 ez4
          have dv1 := kn.1
          walk_at "rd"
          refine x_mkP f1 (by omega) (by omega) (by omega) fun d1 H5 h5 s5 D1 => ?_
          walk_at "rd"
          refine y_known D1 g1 (by omega) rw0 (by omega) fun v1 H6 k1 s6 => ?_
          rw [k1.uniq kn]
          walk_at "rd"
          refine x_callN0 ?_
          walk_at "rd"
          refine y_known (D1.same s6) g1 (by omega) rw0 (by omega) fun v2 H7 k2 s7 => ?_
          rw [k2.uniq kn]
          walk_at "rd"
          refine x_mkP (by omega) (by omega) (by omega) (by omega) fun d2 H8 h8 s8 D2 => ?_
          walk_at "rd"
          refine y_known D2 g1 (by omega) rw0 (by omega) fun v3 H9 k3 s9 => ?_
          rw [kn_far g1 rw0 (by omega) (by omega) k3]
          have D2 := D2.same s9
          walk_at "rd"
          intro w1 hw1
          walk_at "rd"
          intro w2 hw2
          refine x_neT2 (at_upd hw2 upd_same) upd_same ?_
          have s59 := ((((s5.trans s6).trans s7).trans s8).trans s9).trans ((same_upd (o := HO.tup [V.int (200 + f), V.int 1000]) hw1).trans (same_upd (o := HO.tup [V.int (200 + f), V.int 1000]) hw2))
          have D1 := (D1.same (((s6.trans s7).trans s8).trans s9)).same ((same_upd (o := HO.tup [V.int (200 + f), V.int 1000]) hw1).trans (same_upd (o := HO.tup [V.int (200 + f), V.int 1000]) hw2))
          generalize upd (upd H9 w1 (HO.tup [V.int (200 + f), V.int 1000])) w2 (HO.tup [V.int (200 + f), V.int 1000]) = HA at *
          have P := s59 _ _ P ; have oz := oz.same s59 ; have ez := s59 _ _ ez
          clear D2 k1 k2 k3 s5 s6 s7 s8 s9 s59 h5 h8 hw1
          walk_at "rd"
          refine x_lcL rfl ez (by omega) (fun i acc H' => Same HA H' ∧ acc = []) (fun D hD => ⟨same_upd hD, rfl⟩) (fun i acc H' z => z.1 _ _ ez) ?_ ?_
          · rintro D i x acc HB hD hi hx ⟨sB, rfl⟩ eD la li
            obtain ⟨r, g, t, rfl, er, bd, ne⟩ := oz.1 x (List.mem_of_getElem? hx)
            have erB := sB _ _ er
            have b1 := bd.1 ; have b2 := bd.2.1 ; have b3 := bd.2.2.1 ; have b4 := bd.2.2.2
            walk_at "rd"
            refine x_mkP b1 (by omega) b3 (by omega) fun d3 HC h3 sC D3 => ?_
            walk_at "rd"
            refine ⟨d1, d3, f, rs, g, t, dv, rfl, (D1.same sB).same sC, D3, dv1, fun v k HD pv e1 e2 sD => ?_⟩
            have ek : k = false := by
              rcases fst_part f1 rs0 b1 b3 pv with ⟨z1, z2, _⟩ | ⟨_, c, rfl, fd⟩
              · exact absurd ⟨z1, z2⟩ ne
              · obtain ⟨d, hd, fd'⟩ := kn.2.1 g t bd ne
                have := fd.uniq fd'
                rw [e1 c rfl]
                exact decide_eq_false (by omega)
            subst ek
            walk_at "rd"
            exact x_lcN (sD _ _ (sC _ _ eD)) la (Nat.le_succ _) ⟨(sB.trans sC).trans sD, rfl⟩
          · rintro D acc HB hD eD ⟨sB, rfl⟩
            walk_at "rd"
            intro w3 hw3
            refine x_neL0 (ns := []) (at_upd hw3 eD) upd_same ?_
            have D1 := (D1.same sB).same (same_upd (o := HO.lst []) hw3)
            have sB := sB.trans (same_upd (o := HO.lst []) hw3)
            generalize upd HB w3 (HO.lst []) = HC at *
            have P := sB _ _ P ; have oz := oz.same sB ; have ez := sB _ _ ez
            clear sB hD eD hw3
            walk_at "rd"
            try refine x_iteNF rfl ?_
            walk_at "rd"
            intro w4 hw4
            walk_at "rd"
            intro w5 hw5
            refine x_neT2 (at_upd hw5 upd_same) upd_same ?_
            have sT := (same_upd (o := HO.tup [V.int f, V.int rs]) hw4).trans (same_upd (o := HO.tup [V.int f, V.int rs]) hw5)
            generalize upd (upd HC w4 (HO.tup [V.int f, V.int rs])) w5 (HO.tup [V.int f, V.int rs]) = HD at *
            have P := sT _ _ P ; have oz := oz.same sT ; have ez := sT _ _ ez ; have D1 := D1.same sT
            clear sT hw4
            walk_at "rd"
            refine x_ite (p := 1 < dv) (fun gt => ?_) (fun le => ?_)
            · obtain ⟨g0, t0, bd0, ne0, fd0⟩ : ∃ g t, Bds F rw g t ∧ ¬ (f = g ∧ rs = t) ∧ FstD f rs g t (dv - 1) := by
                rcases kn.2.2 with e | e
                · omega
                · exact e
              walk_at "rd"
              refine x_lcL rfl ez (by omega) (fun i acc H' => Same HD H' ∧ ∃ ns : List Int, acc = ns.map V.int ∧ ∀ (k : Nat) (r : Addr), k < i → zs[k]? = some (.ref r) → HD r = some (.tup [.int g0, .int t0]) → ns ≠ []) (fun D hD => ⟨same_upd hD, [], rfl, fun k r hk => by omega⟩) (fun i acc H' z => z.1 _ _ ez) ?_ ?_
              · rintro D i x acc HE hD hi hx ⟨sE, ns', rfl, an⟩ eD la li
                obtain ⟨r, g, t, rfl, er, bd, ne⟩ := oz.1 x (List.mem_of_getElem? hx)
                have erE := sE _ _ er
                have b1 := bd.1 ; have b2 := bd.2.1 ; have b3 := bd.2.2.1 ; have b4 := bd.2.2.2
                walk_at "rd"
                refine x_mkP b1 (by omega) b3 (by omega) fun d3 HF h3 sF D3 => ?_
                walk_at "rd"
                refine ⟨d1, d3, f, rs, g, t, dv - 1, rfl, (D1.same sE).same sF, D3, by omega, fun v k HG pv e1 e2 sG => ?_⟩
                have sEG := (sE.trans sF).trans sG
                have eG := sG _ _ (sF _ _ eD)
                cases k with
                | true =>
                  walk_at "rd"
                  exact x_lcA eG la li ⟨sameD hD sEG, ns' ++ [1], by simp, fun _ _ _ _ _ => by simp⟩
                | false =>
                  walk_at "rd"
                  refine x_lcN eG la (Nat.le_succ _) ⟨sEG, ns', rfl, fun k' r' hk' hx' er' => ?_⟩
                  by_cases w : k' = i
                  · subst w
                    rw [hx] at hx'
                    cases hx'
                    rw [er] at er'
                    cases er'
                    rcases fst_part f1 rs0 b1 b3 pv with ⟨z1, z2, _⟩ | ⟨_, c, rfl, fd⟩
                    · exact absurd ⟨z1, z2⟩ ne
                    · have h1 := fd.uniq fd0
                      have h2 := (e1 c rfl).symm
                      have h3 := of_decide_eq_false h2
                      omega
                  · exact an k' r' (by omega) hx' er'
              · rintro D acc HE hD eD ⟨sE, ns', rfl, an⟩
                obtain ⟨r0', hr0, er0⟩ := oz.2 g0 t0 bd0 (by unfold Bds at bd0; omega) ne0
                obtain ⟨kk, hkk⟩ := List.getElem?_of_mem hr0
                have kl : kk < zs.length := by
                  apply Classical.byContradiction
                  intro zz
                  rw [List.getElem?_eq_none (by omega)] at hkk
                  cases hkk
                have nz := an kk r0' kl hkk er0
                walk_at "rd"
                intro w6 hw6
                refine x_eqL0 (ns := ns') (at_upd hw6 eD) upd_same ?_
                rw [decide_eq_false nz]
                have P := at_upd (u := HO.lst []) hw6 (sE _ _ P)
                walk_at "rd"
                exact ⟨⟨_, _, _, _, _, _, _, _, _, _, _, _, _, _, _, _, rfl⟩, P⟩
            · walk_at "rd"
              exact ⟨⟨_, _, _, _, _, _, _, _, _, _, _, _, _, _, _, _, rfl⟩, P⟩
    · rintro σ H ⟨v1, v2, v3, v4, v5, v6, v7, v8, v9, v10, v11, v12, v13, v14, v15, v16, rfl⟩
      walk_at "rd"
      exact k _
end Wm

open PySem PySem.W PySem.Calls PyProof.Rows
set_option maxRecDepth 100000 in
set_option maxHeartbeats 0 in
theorem PySem.Challenge.cw_wetmarks_k85_whole_from_when_touches_are_holds : PySem.Challenge.rw_wetmarks_k85_whole_from_when_touches_are.Holds := by
  w_on; o_law
  refine HandSHeadRun.head_imp (r := OpenLaw.row PySem.Challenge.rw_wetmarks_k85_whole_from_when_touches_are) (q := view (OpenLaw.row PySem.Challenge.rw_wetmarks_k85_whole_from_when_touches_are).prog [32]) (H := Wm.hk) (ob := Wm.ob) (M := 6000) (loose := Wm.loose) (d := HandSHeadRun.topDef (OpenLaw.row PySem.Challenge.rw_wetmarks_k85_whole_from_when_touches_are).prog 32) (kwd := []) Wm.ob_eq
    Wm.run (by kernel_rfl) (by kernel_rfl) (by kernel_rfl) (by rfl) (by first | assumption | decide +kernel) (by decide +kernel) ⟨rfl, rfl, rfl, rfl, rfl, by decide +kernel⟩ ?hw ?hc
  case hw => w_witness2
  case hc =>
    refine L2.walk_ofE (l := PySem.Challenge.rw_wetmarks_k85_whole_from_when_touches_are) (n := 63) (k := 121) (x := "_law_script") (CX := L2.CX0) rfl (by decide) (by kernel_rfl) ⟨rfl, by decide, by decide⟩ ?F (fun _ _ _ _ z => z)
    intro w mg fa h Y G hmg0
    obtain ⟨K, KX, c, b, x⟩ := Y
    have hmg : mg ("law" : PySem.Str) = some (.ref fa) := by
      have e : (HandSHeadRun.topDef (OpenLaw.row PySem.Challenge.rw_wetmarks_k85_whole_from_when_touches_are).prog 32).name = ("law" : PySem.Str) := by kernel_rfl
      rw [← e]
      exact hmg0
    have T := Wm.txt KX G c b x
    have e := hmg.symm.trans T.g_law
    cases e
    obtain ⟨fd, F⟩ := T.f_law
    have hb := L2.FunD.bindsA (ps := ["_law_script"]) F fun _ _ _ _ _ _ us hl => match us, hl with | [_], _ => rfl
    exact ⟨K, fd, Wm.spLaw K, KX, fun s v => hb s [v] rfl, fun H a ns hl _ hS => ⟨a, ns, rfl, hS, hl, fun _ => rfl⟩, fun base _ _ => Wm.ok_law T F⟩
#print axioms PySem.Challenge.cw_wetmarks_k85_whole_from_when_touches_are_holds
