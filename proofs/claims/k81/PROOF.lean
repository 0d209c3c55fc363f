import PyProof.Rows.All
import Wide.All
import OpenK.AllK
import Wide.FinOn
import KE.KStateDown
import HandS.ForMost
import HandS.Wide
import HandS.Gcd
import HandS.IsInst
import HandS.Defaults
import HandS.Head0
import HandS.Head1
import HandS.Head2
import HandS.Head3
import HandS.HeadEnd
import HandS.HeadHook1
import HandS.HeadHook2
import PyProof.LongRange
import HandS.Conv
import Flt.RightSqrt
import HandS.Flt
import KE.SortData
import HandS.Comp
import HandS.Deep
import HandS.Codes
import HandS.NoneIn
import HandS.Style
import PySem.Challenge.RW_wetmarks_k81_whole_great_drums_parted
set_option Elab.async false
set_option linter.all false
set_option maxRecDepth 100000
set_option maxHeartbeats 8000000
/-! Own lemmas: how a reading is run from the left, one head at a time. -/
namespace Wm
open PySem PySem.Spec PyProof.Rows L2

/-! ### isqrt -/
def rIsqrt : List V → Hp → VK → Prop := fun vs H Q => ∃ a : Int, vs = [.int a] ∧ 0 ≤ a ∧ a.toNat.log2 ≤ 13000 ∧ Q (.int ((PySem.Float64.isqrt a.toNat : Nat) : Int)) H
theorem cr_isqrt {X : Cx} : CallR X (.builtin "math.isqrt") rIsqrt := by
  intro pins s σ H vs us Q I r h
  obtain ⟨a, rfl, h0, hl, q⟩ := h
  cases r with
  | cons r1 r2 =>
    cases r2
    obtain ⟨t, rfl⟩ := r1
    exact call_function_meets PySem.W.MGF.kind_isqrt PySem.W.MGF.plain_isqrt PySem.W.MGF.entry_isqrt (PySem.W.MGF.args_isqrt _) (PySem.W.mg_run_isqrt a t (by omega) (by omega) (by omega)).meets ⟨.int _, H, I.tok _, ⟨_, rfl⟩, q⟩

/-! ### readings, from the left -/
section
variable {K : PySem.W.Frag} {σ : L2.St} {H : Hp} {Q : VK} {D : Ends} {E : XK} {ta tb tc : TE} {r r' : R2} {t u : TS} {c : TT}
theorem x_seq (h : t { D with nx := u D } σ H) : tSeq t u D σ H := h
theorem x_next (h : D.nx σ H) : tNext D σ H := h
theorem x_drop (h : ta σ H fun _ H1 => D.nx σ H1) : tDrop ta D σ H := h
theorem x_asg {g : TG} (h : ta σ H fun x H1 => g x σ H1 D.nx) : tAsg ta g D σ H := h
theorem x_ret (h : ta σ H D.rt) : tRet ta D σ H := h
theorem x_retN (h : D.rt .non H) : tRetN D σ H := h
theorem x_ifS (h : c σ H fun b H1 => if b = true then t D σ H1 else u D σ H1) : tIfS c t u D σ H := h
theorem x_gName {i : Nat} {v : V} {R : L2.St → Hp → Prop} (h : R (σ.set i (some v)) H) : gName i v σ H R := h
theorem x_var {i : Nat} {v : V} (e : σ[i]? = some (some v)) (h : Q v H) : tVar i σ H Q := ⟨v, e, h⟩
theorem x_c {v : V} (h : Q v H) : tC v σ H Q := h
theorem x_op (h : ta σ H fun x H1 => tb σ H1 fun y H2 => r x y H2 Q) : tOp r ta tb σ H Q := h
theorem x_un {r : V → Hp → VK → Prop} (h : ta σ H fun x H1 => r x H1 Q) : tUn r ta σ H Q := h
theorem x_rI0 {g : Int → Int → V} {i j : Int} (h : Q (g i j) H) : rI0 g (.int i) (.int j) H Q := ⟨i, j, rfl, rfl, h⟩
theorem x_rI {C : Int → Int → Prop} {g : Int → Int → V} {i j : Int} (hc : C i j) (h : Q (g i j) H) : rI C g (.int i) (.int j) H Q := ⟨i, j, rfl, rfl, hc, h⟩
theorem x_rU {g : Int → V} {i : Int} (h : Q (g i) H) : rU g (.int i) H Q := ⟨i, rfl, h⟩
theorem x_rEqI {i j : Int} (h : Q (.bl (decide (i = j))) H) : rEq (.int i) (.int j) H Q := ⟨rfl, by
  have e : decide (V.int i = V.int j) = decide (i = j) := by by_cases x : i = j <;> simp [x]
  rw [e]; exact h⟩
theorem x_rNeI {i j : Int} (h : Q (.bl (!decide (i = j))) H) : rNe (.int i) (.int j) H Q := ⟨rfl, by
  have e : decide (V.int i = V.int j) = decide (i = j) := by by_cases x : i = j <;> simp [x]
  rw [e]; exact h⟩
/-- a value that must be a bool -/
def asB (R : Bool → Hp → Prop) (x : V) (H : Hp) : Prop := ∃ k, x = .bl k ∧ R k H
theorem x_test {R : Bool → Hp → Prop} (h : ta σ H fun x H1 => asB R x H1) : tTest ta σ H R := h
theorem x_B {R : Bool → Hp → Prop} (h : ta σ H fun x H1 => asB R x H1) : tB ta σ H R := h
theorem x_asB {R : Bool → Hp → Prop} {k : Bool} (h : R k H) : asB R (.bl k) H := ⟨k, rfl, h⟩
theorem x_not {R : Bool → Hp → Prop} (h : c σ H fun b H1 => R (!b) H1) : tNot c σ H R := h
theorem x_and {c2 : TT} {R : Bool → Hp → Prop} (h : c σ H fun b H1 => if b = true then c2 σ H1 R else R false H1) : tAnd c c2 σ H R := h
theorem x_or {c2 : TT} {R : Bool → Hp → Prop} (h : c σ H fun b H1 => if b = true then R true H1 else c2 σ H1 R) : tOr c c2 σ H R := h
theorem x_andV (h : ta σ H fun x H1 => asB (fun c H1 => if c = true then tb σ H1 Q else Q (.bl false) H1) x H1) : tAndV ta tb σ H Q := h
theorem x_orV (h : ta σ H fun x H1 => asB (fun c H1 => if c = true then Q (.bl true) H1 else tb σ H1 Q) x H1) : tOrV ta tb σ H Q := h
theorem x_notV (h : ta σ H fun x H1 => asB (fun c H1 => Q (.bl (!c)) H1) x H1) : tNotV ta σ H Q := h
theorem x_tIf (h : c σ H fun b H1 => if b = true then ta σ H1 Q else tb σ H1 Q) : tIf c ta tb σ H Q := h
/-- the second link of a chain -/
def chK (r' : R2) (tc : TE) (σ : L2.St) (y : V) (Q : VK) (z : V) (H : Hp) : Prop := ∃ k, z = .bl k ∧ if k = true then tc σ H fun w H4 => r' y w H4 Q else Q (.bl false) H
theorem x_chain (h : ta σ H fun x H1 => tb σ H1 fun y H2 => r x y H2 fun z H3 => chK r' tc σ y Q z H3) : tChain r r' ta tb tc σ H Q := h
theorem x_chK {y : V} {k : Bool} (h : if k = true then tc σ H fun w H4 => r' y w H4 Q else Q (.bl false) H) : chK r' tc σ y Q (.bl k) H := ⟨k, rfl, h⟩
theorem x_nil {R : List V → Hp → Prop} (h : R [] H) : tNil σ H R := h
theorem x_cons {tr : TA} {R : List V → Hp → Prop} (h : ta σ H fun x H1 => tr σ H1 fun xs H2 => R (x :: xs) H2) : tCons ta tr σ H R := h
theorem x_cb {rr : List V → Hp → VK → Prop} {tA : TA} (h : tA σ H fun vs H1 => rr vs H1 Q) : tCB rr tA σ H Q := h
theorem x_call {sp : Sp} {tA : TA} (h : tA σ H fun vs H1 => sp vs H1 Q E) : tCall sp [] E tA σ H Q := by
  unfold tCall
  simp only [List.append_nil]
  exact h
theorem x_tup {tA : TA} (h : tA σ H fun xs H1 => xs.length ≤ sizeLine ∧ ∀ p, H1 p = none → Q (.ref p) (upd H1 p (.tup xs))) : tTup tA σ H Q := h
theorem x_lst {tA : TA} (h : tA σ H fun xs H1 => xs.length ≤ sizeLine ∧ ∀ p, H1 p = none → Q (.ref p) (upd H1 p (.lst xs))) : tLst tA σ H Q := h
theorem x_size {xs : List V} {A : Prop} (hs : xs.length ≤ 1000) (h : A) : xs.length ≤ sizeLine ∧ A := ⟨Nat.le_trans hs (by decide), h⟩
theorem x_iteT {p A B : Prop} [Decidable p] (hp : p) (h : A) : if decide p = true then A else B := by simp [hp]; exact h
theorem x_iteF {p A B : Prop} [Decidable p] (hp : ¬ p) (h : B) : if decide p = true then A else B := by simp [hp]; exact h
theorem x_iteNT {p A B : Prop} [Decidable p] (hp : ¬ p) (h : A) : if (!decide p) = true then A else B := by simp [hp]; exact h
theorem x_iteNF {p A B : Prop} [Decidable p] (hp : p) (h : B) : if (!decide p) = true then A else B := by simp [hp]; exact h
theorem x_ite {p A B : Prop} [Decidable p] (h1 : p → A) (h2 : ¬ p → B) : if decide p = true then A else B := by
  by_cases hp : p
  · exact x_iteT hp (h1 hp)
  · exact x_iteF hp (h2 hp)
theorem x_iteN {p A B : Prop} [Decidable p] (h1 : ¬ p → A) (h2 : p → B) : if (!decide p) = true then A else B := by
  by_cases hp : p
  · exact x_iteNF hp (h2 hp)
  · exact x_iteNT hp (h1 hp)
theorem x_t {A B : Prop} (h : A) : if true = true then A else B := by simp; exact h
theorem x_f {A B : Prop} (h : B) : if false = true then A else B := by simp; exact h
theorem x_nt {A B : Prop} (h : B) : if (!true) = true then A else B := by simp; exact h
theorem x_nf {A B : Prop} (h : A) : if (!false) = true then A else B := by simp; exact h
end
end Wm
namespace Wm
open PySem PySem.Spec PyProof.Rows L2
/-! ### the head's facts, with names that stand for built-in functions -/
def bfn (K : PySem.W.Frag) (q : Str × String) : Bool := He.eqO (PySem.W.nsIn K mainGlobals q.1) (some (some (.builtin q.2)))
theorem bfn_ok {K : PySem.W.Frag} {h : Heap} {mg : Str → Option Value} (X : K.In h) (G : h.Ns mainGlobals mg) {x : Str} {id : String} (c : bfn K (x, id) = true) : mg x = some (.builtin id) := PySem.W.mg_of X G (He.eqO_ok c)
def obsBG (n : Nat) (fa : List He.Fa) (fn : List He.DefD) (bi : List (Str × String)) (g : Addr → Option Obj) : He.AlD × Bool :=
  (He.obsDG n fa fn g, bi.all (bfn (He.frG g (He.asD g n))))
def hookB (n : Nat) (fa : List He.Fa) (fn : List He.DefD) (bi : List (Str × String)) : PySem.W.Hook where
  α := He.AlD × Bool
  obs := fun s => obsBG n fa fn bi s.heap.get?
  val := fun _ => (He.valD fn, true)
  says := fun _ h => ∃ K : PySem.W.Frag, K.In h ∧ He.SaysD fa fn K ∧ ∀ q ∈ bi, bfn K q = true
  of := fun _ _ e => ⟨_, He.frG_in, congrArg (fun z : He.AlD × Bool => z.1) e, fun q hq => List.all_eq_true.mp (show bi.all _ = true from congrArg (fun z : He.AlD × Bool => z.2) e) q hq⟩
  keeps := fun _ _ _ ⟨K, hK, c⟩ k => ⟨K, PySem.W.Frag.In.keeps hK k, c⟩
theorem obsBG_eq {n : Nat} {fa : List He.Fa} {fn : List He.DefD} {bi : List (Str × String)} {g : Addr → Option Obj} {s : Shared} (h : ∀ a, g a = s.heap.get? a) : obsBG n fa fn bi g = (hookB n fa fn bi).obs s := by
  have e : g = s.heap.get? := funext h
  rw [e] <;> rfl
end Wm
namespace Wm
open PySem PySem.Spec PyProof.Rows L2
theorem nk {CX : CXT} {P : Program} {w : World} {K : PySem.W.Frag} {mg : Str → Option Value} {base : Heap} {N : List Str} {q : Str} {sc : Scope} {f : Addr} {cd : Value} {A : Around} {o : List Env} {s : Shared} {H : Hp} {E : XK} :
    (cxOf CX P w K mg base N q sc f cd A o s H E).nox.K = K := rfl
end Wm

/-! Mathematics of drums: where a turn begins, on which turn a cell lies. -/
namespace Wm
/-- where turn t begins -/
def Bg (f s t : Int) : Int := t * f + s * (t * (t - 1) / 2)
theorem tri2 (t : Int) : 2 * (t * (t - 1) / 2) = t * (t - 1) := by
  have h : t * (t - 1) % 2 = 0 := by
    rcases (by omega : t % 2 = 0 ∨ t % 2 = 1) with h | h
    · rw [Int.mul_emod, h]; simp
    · have : (t - 1) % 2 = 0 := by omega
      rw [Int.mul_emod, this]; simp
  omega
theorem bg2 (f s t : Int) : 2 * Bg f s t = 2 * (t * f) + s * (t * (t - 1)) := by
  unfold Bg
  have h := tri2 t
  generalize t * (t - 1) / 2 = d at *
  grind
theorem bg0 (f s : Int) : Bg f s 0 = 0 := by unfold Bg; simp
theorem bg_succ (f s t : Int) : Bg f s (t + 1) = Bg f s t + (f + t * s) := by
  have h1 := bg2 f s t
  have h2 := bg2 f s (t + 1)
  have e : (t + 1) * (t + 1 - 1) = t * (t - 1) + 2 * t := by grind
  rw [e] at h2
  have : 2 * Bg f s (t + 1) = 2 * (Bg f s t + (f + t * s)) := by
    rw [h2]; grind
  omega
/-- on which turn a cell lies -/
def tOf (f s c : Int) : Int :=
  if s = 0 then c / f else
    (((PySem.Float64.isqrt ((2 * f - s) * (2 * f - s) + 8 * s * c).toNat : Nat) : Int) - (2 * f - s)) / (2 * s)
theorem mul_nn {a b : Int} (ha : 0 ≤ a) (hb : 0 ≤ b) : 0 ≤ a * b := Int.mul_nonneg ha hb
theorem sq_nn (a : Int) : 0 ≤ a * a := by
  rcases Int.le_total 0 a with h | h
  · exact Int.mul_nonneg h h
  · have := Int.mul_nonneg (show 0 ≤ -a by omega) (show 0 ≤ -a by omega)
    grind
theorem isq (n : Int) (h : 0 ≤ n) : ∃ r : Int, r = ((PySem.Float64.isqrt n.toNat : Nat) : Int) ∧ 0 ≤ r ∧ r * r ≤ n ∧ n < (r + 1) * (r + 1) := by
  obtain ⟨h1, h2⟩ := PySem.Float64.isqrt_spec n.toNat
  refine ⟨_, rfl, Int.natCast_nonneg _, ?_, ?_⟩
  · have e : ((n.toNat : Nat) : Int) = n := Int.toNat_of_nonneg h
    rw [← e]
    exact_mod_cast h1
  · have e : ((n.toNat : Nat) : Int) = n := Int.toNat_of_nonneg h
    rw [← e]
    exact_mod_cast h2
theorem sq_le {x r : Int} (h0 : 0 ≤ r) (h : x * x < (r + 1) * (r + 1)) : x ≤ r := by
  apply Classical.byContradiction
  intro c
  have hx : r + 1 ≤ x := by omega
  have := Int.mul_le_mul hx hx (by omega) (by omega)
  omega
theorem le_sq {x r : Int} (h1 : x ≤ r) (h2 : -r ≤ x) (h0 : 0 ≤ r) : x * x ≤ r * r := by
  have a : 0 ≤ r - x := by omega
  have b : 0 ≤ r + x := by omega
  have := mul_nn a b
  grind
/-- a turn from 0 on begins at c or ahead of it just where it is no later than tOf -/
theorem tOf_iff {f s c t : Int} (hf : 1 ≤ f) (hs : 0 ≤ s) (hc : 0 ≤ c) (ht : 0 ≤ t) : Bg f s t ≤ c ↔ t ≤ tOf f s c := by
  unfold tOf
  by_cases h : s = 0
  · rw [if_pos h]
    subst h
    have : Bg f 0 t = t * f := by unfold Bg; simp
    rw [this, Int.le_ediv_iff_mul_le (by omega)]
  · rw [if_neg h]
    have hs1 : 1 ≤ s := by omega
    have hsc : 0 ≤ s * c := mul_nn hs hc
    have hN : 0 ≤ (2 * f - s) * (2 * f - s) + 8 * s * c := by
      have := sq_nn (2 * f - s)
      grind
    obtain ⟨r, hr, r0, r1, r2⟩ := isq _ hN
    rw [← hr]
    have slope_ge : -r ≤ 2 * f - s := by
      have : -(2 * f - s) ≤ r := sq_le r0 (by grind)
      omega
    have slope_le : 2 * f - s ≤ r := sq_le r0 (by grind)
    rw [Int.le_ediv_iff_mul_le (by omega)]
    have key : (2 * s * t + (2 * f - s)) * (2 * s * t + (2 * f - s)) = (2 * f - s) * (2 * f - s) + 8 * s * Bg f s t := by
      have := bg2 f s t
      have e : 8 * s * Bg f s t = 4 * s * (2 * Bg f s t) := by grind
      rw [e, this]
      grind
    have st : 0 ≤ s * t := mul_nn hs ht
    have e8 : ∀ x : Int, 8 * s * x = 8 * (s * x) := fun x => by grind
    constructor
    · intro hb
      have : s * Bg f s t ≤ s * c := Int.mul_le_mul_of_nonneg_left hb hs
      have : 2 * s * t + (2 * f - s) ≤ r := sq_le r0 (by rw [key]; rw [e8] at *; omega)
      grind
    · intro hb
      have h1 : 2 * s * t + (2 * f - s) ≤ r := by grind
      have h2 : -r ≤ 2 * s * t + (2 * f - s) := by grind
      have h3 := le_sq h1 h2 r0
      rw [key] at h3
      rw [e8] at h3
      rw [e8] at r1
      have : s * Bg f s t ≤ s * c := by omega
      exact Int.le_of_mul_le_mul_left this (by omega)
theorem tOf_nn {f s c : Int} (hf : 1 ≤ f) (hs : 0 ≤ s) (hc : 0 ≤ c) : 0 ≤ tOf f s c := (tOf_iff hf hs hc (Int.le_refl 0)).mp (by rw [bg0]; exact hc)
theorem tOf_le {f s c : Int} (hf : 1 ≤ f) (hs : 0 ≤ s) (hc : 0 ≤ c) : Bg f s (tOf f s c) ≤ c := (tOf_iff hf hs hc (tOf_nn hf hs hc)).mpr (Int.le_refl _)
theorem tOf_gt {f s c : Int} (hf : 1 ≤ f) (hs : 0 ≤ s) (hc : 0 ≤ c) : c < Bg f s (tOf f s c) + (f + tOf f s c * s) := by
  rw [← bg_succ]
  have h := tOf_iff hf hs hc (t := tOf f s c + 1) (by have := tOf_nn hf hs hc; omega)
  apply Classical.byContradiction
  intro q
  have := h.mp (by omega)
  omega
theorem tOf_eq {f s c t : Int} (hf : 1 ≤ f) (hs : 0 ≤ s) (ht : 0 ≤ t) (h1 : Bg f s t ≤ c) (h2 : c < Bg f s t + (f + t * s)) (hc : 0 ≤ c) : tOf f s c = t := by
  have a := (tOf_iff hf hs hc ht).mp h1
  rw [← bg_succ] at h2
  have b := tOf_iff hf hs hc (t := t + 1) (by omega)
  have : ¬ t + 1 ≤ tOf f s c := fun q => by have := b.mpr q; omega
  omega
theorem bg_nn {f s t : Int} (hf : 1 ≤ f) (hs : 0 ≤ s) (ht : 0 ≤ t) : t ≤ Bg f s t := by
  have h := bg2 f s t
  have a : t ≤ t * f := by
    have := Int.mul_le_mul_of_nonneg_left hf ht
    omega
  have b : 0 ≤ s * (t * (t - 1)) := by
    apply mul_nn hs
    by_cases z : t = 0
    · subst z; simp
    · exact mul_nn ht (by omega)
  omega
theorem bg_ge {f s t : Int} (hf : 1 ≤ f) (hs : 0 ≤ s) (ht : 0 ≤ t) : 0 ≤ Bg f s t := Int.le_trans ht (bg_nn hf hs ht)
theorem tOf_lec {f s c : Int} (hf : 1 ≤ f) (hs : 0 ≤ s) (hc : 0 ≤ c) : tOf f s c ≤ c := Int.le_trans (bg_nn hf hs (tOf_nn hf hs hc)) (tOf_le hf hs hc)
theorem bg_mono {f s t u : Int} (hf : 1 ≤ f) (hs : 0 ≤ s) (ht : 0 ≤ t) (h : t ≤ u) : Bg f s t ≤ Bg f s u := by
  have hu : 0 ≤ Bg f s u := bg_ge hf hs (by omega)
  have a := (tOf_iff hf hs hu (t := u) (by omega)).mp (Int.le_refl _)
  exact (tOf_iff hf hs hu ht).mpr (by omega)
end Wm

/-! Heaps, sizes, promises. -/
namespace Wm
open PySem PySem.Spec PyProof.Rows L2
/-! ### sizes -/
def Bd (k : Nat) (x : Int) : Prop := x.natAbs < 2 ^ k
theorem Bd.of {k : Nat} {x : Int} (h0 : 0 ≤ x) (h : x < 2 ^ k) : Bd k x := by
  unfold Bd
  have : (x.natAbs : Int) < ((2 ^ k : Nat) : Int) := by
    rw [Int.natAbs_of_nonneg h0]; simpa using h
  exact_mod_cast this
theorem Bd.le {k : Nat} {x y : Int} (h : Bd k y) (h0 : 0 ≤ x) (hx : x ≤ y) : Bd k x := by
  unfold Bd at *; omega
theorem Bd.mono {k l : Nat} {x : Int} (h : Bd k x) (hl : k ≤ l) : Bd l x := Nat.lt_of_lt_of_le h (Nat.pow_le_pow_right (by decide) hl)
theorem Bd.mul {a b : Nat} {x y : Int} (hx : Bd a x) (hy : Bd b y) : Bd (a + b) (x * y) := wide_lt hx hy
theorem Bd.add {a b : Nat} {x y : Int} (hx : Bd a x) (hy : Bd b y) : Bd (a + b + 1) (x + y) := by
  have h1 : Bd (a + b) x := hx.mono (by omega)
  have h2 : Bd (a + b) y := hy.mono (by omega)
  unfold Bd at *
  rw [Nat.pow_succ]
  omega
theorem Bd.sub {a b : Nat} {x y : Int} (hx : Bd a x) (hy : Bd b y) : Bd (a + b + 1) (x - y) := by
  have h1 : Bd (a + b) x := hx.mono (by omega)
  have h2 : Bd (a + b) y := hy.mono (by omega)
  unfold Bd at *
  rw [Nat.pow_succ]
  omega
theorem Bd.div {a : Nat} {x y : Int} (hx : Bd a x) : Bd a (x / y) := by
  unfold Bd at *
  exact Nat.lt_of_le_of_lt (Int.natAbs_ediv_le_natAbs x y) hx
theorem Bd.lit8 {x : Int} (h : x.natAbs < 2 ^ 8) : Bd 8 x := h
theorem Bd.lit {x : Int} (h : x.natAbs < 2 ^ 128) : Bd 128 x := h
theorem cm {a b : Nat} {x y : Int} (hx : Bd a x) (hy : Bd b y) (h : a + b ≤ 900000) : CMulW x y :=
  wide_mul (a := a + 1) (b := b + 1) (hx.mono (by omega)) (hy.mono (by omega)) (by omega) (by omega) (by omega)
theorem cd {b : Nat} {x y : Int} (h0 : 0 < y) (hy : Bd b y) (h : b ≤ 8999) : CDivW x y :=
  wide_div (b := b + 1) h0 (hy.mono (by omega)) (by omega) (by omega)
/-! ### heaps -/
def dfl (f s : Int) : List (Str × V) := putF "_step" (.int s) (putF "_first" (.int f) [])
theorem dfl_first (f s : Int) : (dfl f s).lookup ("_first" : Str) = some (.int f) := by
  unfold dfl
  rw [lookup_putF, if_neg (by decide +kernel), lookup_putF, if_pos rfl]
theorem dfl_step (f s : Int) : (dfl f s).lookup ("_step" : Str) = some (.int s) := by
  unfold dfl
  rw [lookup_putF, if_pos rfl]
theorem dfl_no (f s : Int) {m : Str} (h1 : ¬ m = "_step") (h2 : ¬ m = "_first") : (dfl f s).lookup m = none := by
  unfold dfl
  rw [lookup_putF, if_neg h1, lookup_putF, if_neg h2]
  all_goals rfl
/-- the draws' list -/
def Src (H : Hp) (a : Addr) (n : Int) : Prop := ∃ s0 s1 s2 : Int, H a = some (.lst [.int s0, .int s1, .int s2]) ∧ 0 ≤ s1 ∧ s1 < 2147483647 ∧ 0 ≤ s2 ∧ s2 ≤ n
/-- a drum -/
structure Drm (K : PySem.W.Frag) (H : Hp) (p : Addr) (f s : Int) : Prop where
  ob : ∃ dx, H p = some (.ins (He.ga K "Drum") dx (dfl f s))
  f1 : 1 ≤ f
  f2 : f < 10 ^ 15
  s0 : 0 ≤ s
  s2 : s < 10 ^ 15
theorem Drm.bf {K : PySem.W.Frag} {H : Hp} {p : Addr} {f s : Int} (d : Drm K H p f s) : Bd 50 f := Bd.of (by have := d.f1; omega) (by have := d.f2; omega)
theorem Drm.bs {K : PySem.W.Frag} {H : Hp} {p : Addr} {f s : Int} (d : Drm K H p f s) : Bd 50 s := Bd.of d.s0 (by have := d.s2; omega)
/-- all but what stands at a is as it was -/
def But (a : Addr) (H H' : Hp) : Prop := ∀ b o, b ≠ a → H b = some o → H' b = some o
theorem But.refl (a : Addr) (H : Hp) : But a H H := fun _ _ _ h => h
theorem But.trans {a : Addr} {H H1 H2 : Hp} (h : But a H H1) (k : But a H1 H2) : But a H H2 := fun b o n e => k b o n (h b o n e)
theorem But.of {a : Addr} {H H' : Hp} (h : Same H H') : But a H H' := fun b o _ e => h b o e
theorem same_upd {H : Hp} {q : Addr} {o : HO} (h : H q = none) : Same H (upd H q o) := fun b u e => by
  rw [upd_ne (ne_of_none e h)]; exact e
theorem but_set {a : Addr} {H : Hp} {o : HO} : But a H (upd H a o) := fun b u n e => by
  rw [upd_ne n]; exact e
section
variable {K : PySem.W.Frag} {H H' : Hp} {a p q : Addr} {f s n m : Int} {o u : HO} {xs : List V}
theorem Src.ne (h : Src H a n) (e : H p = some (.ins q m' xs')) : p ≠ a := by
  obtain ⟨_, _, _, e2, _⟩ := h
  exact ne_of e e2 (by intro z; cases z)
theorem Src.neT (h : Src H a n) (e : H p = some (.tup xs)) : p ≠ a := by
  obtain ⟨_, _, _, e2, _⟩ := h
  exact ne_of e e2 (by intro z; cases z)
theorem Src.neN (h : Src H a n) (e : H p = none) : p ≠ a := by
  obtain ⟨_, _, _, e2, _⟩ := h
  exact (ne_of_none e2 e).symm
theorem Src.same (h : Same H H') (x : Src H a n) : Src H' a n := by
  obtain ⟨s0, s1, s2, e2, r⟩ := x
  exact ⟨s0, s1, s2, h _ _ e2, r⟩
theorem Src.upd (h : H q = none) (x : Src H a n) : Src (L2.upd H q o) a n := x.same (same_upd h)
theorem Src.mono (x : Src H a n) (h : n ≤ m) : Src H a m := by
  obtain ⟨s0, s1, s2, e2, a, b, c, d⟩ := x
  exact ⟨s0, s1, s2, e2, a, b, c, by omega⟩
theorem Drm.same (h : Same H H') (x : Drm K H p f s) : Drm K H' p f s := ⟨x.ob.elim fun dx e => ⟨dx, h _ _ e⟩, x.f1, x.f2, x.s0, x.s2⟩
theorem Drm.upd (h : H q = none) (x : Drm K H p f s) : Drm K (L2.upd H q o) p f s := x.same (same_upd h)
theorem Drm.but (h : But a H H') (hs : Src H a n) (x : Drm K H p f s) : Drm K H' p f s := ⟨x.ob.elim fun dx e => ⟨dx, h _ _ (hs.ne e) e⟩, x.f1, x.f2, x.s0, x.s2⟩
theorem at_same (h : Same H H') (x : H p = some o) : H' p = some o := h _ _ x
theorem at_upd (h : H q = none) (x : H p = some o) : L2.upd H q u p = some o := (same_upd h) _ _ x
theorem at_but (h : But a H H') (n : p ≠ a) (x : H p = some o) : H' p = some o := h _ _ n x
theorem tup_but (h : But a H H') (hs : Src H a n) (x : H p = some (.tup xs)) : H' p = some (.tup xs) := h _ _ (hs.neT x) x
end
/-! ### promises of the program -/
section
variable (K : PySem.W.Frag)
def sp_is_whole : Sp := fun vs H Q _ => ∃ n : Int, vs = [.int n] ∧ Q (.bl true) H
def sp_is_from : Sp := fun vs H Q _ => ∃ l n : Int, vs = [.int l, .int n] ∧ Q (.bl (decide (l ≤ n))) H
def sp_is_below : Sp := fun vs H Q _ => ∃ m n : Int, vs = [.int m, .int n] ∧ 0 ≤ n ∧ Q (.bl (decide (n < m))) H
def sp_is_tuple_of : Sp := fun vs H Q _ => ∃ (m : Int) (p : Addr) (xs : List V), vs = [.int m, .ref p] ∧ H p = some (.tup xs) ∧ Q (.bl (decide ((xs.length : Int) = m))) H
def sp_check_turn : Sp := fun vs H Q _ => ∃ n : Int, vs = [.int n] ∧ 0 ≤ n ∧ Q .non H
def sp_check_cell : Sp := fun vs H Q _ => ∃ n : Int, vs = [.int n] ∧ 0 ≤ n ∧ Q .non H
def sp_check_length : Sp := fun vs H Q _ => ∃ n : Int, vs = [.int n] ∧ 1 ≤ n ∧ Q .non H
def sp_check_beats : Sp := fun vs H Q _ => ∃ n : Int, vs = [.int n] ∧ 0 ≤ n ∧ Q .non H
def sp_check_place : Sp := fun vs H Q _ => ∃ m n : Int, vs = [.int m, .int n] ∧ 0 ≤ n ∧ n < m ∧ Q .non H
def sp_check_below : Sp := fun vs H Q _ => ∃ m n : Int, vs = [.int m, .int n] ∧ 0 ≤ n ∧ n < m ∧ Q .non H
def sp_Drumu__initu_ : Sp := fun vs H Q _ => ∃ (p dx : Addr) (f s : Int), vs = [.ref p, .int f, .int s] ∧ H p = some (.ins (He.ga K "Drum") dx []) ∧ 1 ≤ f ∧ f < 10 ^ 15 ∧ 0 ≤ s ∧ s < 10 ^ 15 ∧ Q .non (upd H p (.ins (He.ga K "Drum") dx (dfl f s)))
def sp_Drum_first : Sp := fun vs H Q _ => ∃ (p : Addr) (f s : Int), vs = [.ref p] ∧ Drm K H p f s ∧ Q (.int f) H
def sp_Drum_step : Sp := fun vs H Q _ => ∃ (p : Addr) (f s : Int), vs = [.ref p] ∧ Drm K H p f s ∧ Q (.int s) H
def sp_Drum_size : Sp := fun vs H Q _ => ∃ (p : Addr) (f s t : Int), vs = [.ref p, .int t] ∧ Drm K H p f s ∧ 0 ≤ t ∧ t < 2 ^ 1000 ∧ Q (.int (f + t * s)) H
def sp_Drum_begins : Sp := fun vs H Q _ => ∃ (p : Addr) (f s t : Int), vs = [.ref p, .int t] ∧ Drm K H p f s ∧ 0 ≤ t ∧ t < 2 ^ 1000 ∧ Q (.int (Bg f s t)) H
def sp_Drumu_turn_of : Sp := fun vs H Q _ => ∃ (p : Addr) (f s c : Int), vs = [.ref p, .int c] ∧ Drm K H p f s ∧ 0 ≤ c ∧ c < 2 ^ 1000 ∧ Q (.int (tOf f s c)) H
/-- what where tells -/
def whr (f s c : Int) : List Int := [tOf f s c, c - Bg f s (tOf f s c), f + tOf f s c * s]
def sp_Drum_where : Sp := fun vs H Q _ => ∃ (p : Addr) (f s c : Int), vs = [.ref p, .int c] ∧ Drm K H p f s ∧ 0 ≤ c ∧ c < 2 ^ 1000 ∧
  ∀ (q : Addr) (H' : Hp), Same H H' → H' q = some (.tup ((whr f s c).map V.int)) → Q (.ref q) H'
def sp_Drum_cell_at : Sp := fun vs H Q _ => ∃ (p : Addr) (f s t l : Int), vs = [.ref p, .int t, .int l] ∧ Drm K H p f s ∧ 0 ≤ t ∧ t < 2 ^ 1000 ∧ 0 ≤ l ∧ l < f + t * s ∧ Q (.int (Bg f s t + l)) H
def sp_Drum_filled : Sp := fun vs H Q _ => ∃ (p : Addr) (f s c : Int), vs = [.ref p, .int c] ∧ Drm K H p f s ∧ 1 ≤ c ∧ c < 2 ^ 1000 ∧
  ∀ (q : Addr) (H' : Hp), Same H H' → H' q = some (.tup [.int (tOf f s (c - 1)), .int (c - 1 - Bg f s (tOf f s (c - 1)) + 1)]) → Q (.ref q) H'
/-! ### promises of a law's own draws -/
def sp__law_source_of : Sp := fun vs H Q _ => ∃ c : Int, vs = [.int c] ∧ ∀ (q : Addr) (H' : Hp), H q = none → Same H H' → Src H' q 0 → Q (.ref q) H'
def sp__law_next : Sp := fun vs H Q _ => ∃ (a : Addr) (n m : Int), vs = [.ref a, .int m] ∧ Src H a n ∧ n < 2 ^ 50 ∧ 0 < m ∧ m < 2 ^ 4000 ∧
  ∀ (r : Int) (H' : Hp), 0 ≤ r → r < m → Src H' a (n + 1) → But a H H' → Q (.int r) H'
def sp__law_one : Sp := fun vs H Q _ => ∃ (a p : Addr) (n : Int) (xs : List V), vs = [.ref a, .ref p] ∧ Src H a n ∧ n < 2 ^ 50 ∧ H p = some (.lst xs) ∧ p ≠ a ∧ 0 < xs.length ∧ xs.length < 1000 ∧
  ∀ (v : V) (H' : Hp), v ∈ xs → Src H' a (n + 1) → But a H H' → Q v H'
def sp__law_cell_at : Sp := fun vs H Q _ => ∃ (a : Addr) (ns : List Int) (k : Int), vs = [.ref a, .int k] ∧ SqL K H a (ns.map V.int) ∧ ns.length ≤ 63 ∧ 0 ≤ k ∧ ∀ r : Int, Q (.int r) H
def sp_law : Sp := fun vs H Q _ => ∃ (a : Addr) (ns : List Int), vs = [.ref a] ∧ SqL K H a (ns.map V.int) ∧ ns.length ≤ 63 ∧ ∀ H', Q (.bl true) H'
end
/-! ### readings of calls -/
section
variable {K : PySem.W.Frag} {σ : L2.St} {H : Hp} {Q : VK} {E : XK} {p a q : Addr} {f s t c l n m : Int}
theorem y_whole (h : Q (.bl true) H) : sp_is_whole [.int n] H Q E := ⟨n, rfl, h⟩
theorem y_from (h : Q (.bl (decide (l ≤ n))) H) : sp_is_from [.int l, .int n] H Q E := ⟨l, n, rfl, h⟩
theorem y_below (h0 : 0 ≤ n) (h : Q (.bl (decide (n < m))) H) : sp_is_below [.int m, .int n] H Q E := ⟨m, n, rfl, h0, h⟩
theorem y_tuple_of {xs : List V} (e : H p = some (.tup xs)) (h : Q (.bl (decide ((xs.length : Int) = m))) H) : sp_is_tuple_of [.int m, .ref p] H Q E := ⟨m, p, xs, rfl, e, h⟩
theorem y_cturn (h0 : 0 ≤ n) (h : Q .non H) : sp_check_turn [.int n] H Q E := ⟨n, rfl, h0, h⟩
theorem y_ccell (h0 : 0 ≤ n) (h : Q .non H) : sp_check_cell [.int n] H Q E := ⟨n, rfl, h0, h⟩
theorem y_clen (h0 : 1 ≤ n) (h : Q .non H) : sp_check_length [.int n] H Q E := ⟨n, rfl, h0, h⟩
theorem y_cbeats (h0 : 0 ≤ n) (h : Q .non H) : sp_check_beats [.int n] H Q E := ⟨n, rfl, h0, h⟩
theorem y_cplace (h0 : 0 ≤ n) (h1 : n < m) (h : Q .non H) : sp_check_place [.int m, .int n] H Q E := ⟨m, n, rfl, h0, h1, h⟩
theorem y_cbelow (h0 : 0 ≤ n) (h1 : n < m) (h : Q .non H) : sp_check_below [.int m, .int n] H Q E := ⟨m, n, rfl, h0, h1, h⟩
theorem y_first (d : Drm K H p f s) (h : Q (.int f) H) : sp_Drum_first K [.ref p] H Q E := ⟨p, f, s, rfl, d, h⟩
theorem y_step (d : Drm K H p f s) (h : Q (.int s) H) : sp_Drum_step K [.ref p] H Q E := ⟨p, f, s, rfl, d, h⟩
theorem y_size (d : Drm K H p f s) (h0 : 0 ≤ t) (h1 : t < 2 ^ 1000) (h : Q (.int (f + t * s)) H) : sp_Drum_size K [.ref p, .int t] H Q E := ⟨p, f, s, t, rfl, d, h0, h1, h⟩
theorem y_begins (d : Drm K H p f s) (h0 : 0 ≤ t) (h1 : t < 2 ^ 1000) (h : Q (.int (Bg f s t)) H) : sp_Drum_begins K [.ref p, .int t] H Q E := ⟨p, f, s, t, rfl, d, h0, h1, h⟩
theorem y_turn_of (d : Drm K H p f s) (h0 : 0 ≤ c) (h1 : c < 2 ^ 1000) (h : Q (.int (tOf f s c)) H) : sp_Drumu_turn_of K [.ref p, .int c] H Q E := ⟨p, f, s, c, rfl, d, h0, h1, h⟩
theorem y_where (d : Drm K H p f s) (h0 : 0 ≤ c) (h1 : c < 2 ^ 1000) (h : ∀ (q : Addr) (H' : Hp), Same H H' → H' q = some (.tup [.int (tOf f s c), .int (c - Bg f s (tOf f s c)), .int (f + tOf f s c * s)]) → Q (.ref q) H') : sp_Drum_where K [.ref p, .int c] H Q E := ⟨p, f, s, c, rfl, d, h0, h1, h⟩
theorem y_cell_at (d : Drm K H p f s) (h0 : 0 ≤ t) (h1 : t < 2 ^ 1000) (h2 : 0 ≤ l) (h3 : l < f + t * s) (h : Q (.int (Bg f s t + l)) H) : sp_Drum_cell_at K [.ref p, .int t, .int l] H Q E := ⟨p, f, s, t, l, rfl, d, h0, h1, h2, h3, h⟩
theorem y_filled (d : Drm K H p f s) (h0 : 1 ≤ c) (h1 : c < 2 ^ 1000) (h : ∀ (q : Addr) (H' : Hp), Same H H' → H' q = some (.tup [.int (tOf f s (c - 1)), .int (c - 1 - Bg f s (tOf f s (c - 1)) + 1)]) → Q (.ref q) H') : sp_Drum_filled K [.ref p, .int c] H Q E := ⟨p, f, s, c, rfl, d, h0, h1, h⟩
theorem y_source_of (h : ∀ (q : Addr) (H' : Hp), H q = none → Same H H' → Src H' q 0 → Q (.ref q) H') : sp__law_source_of [.int c] H Q E := ⟨c, rfl, h⟩
theorem y_next (hs : Src H a n) (hn : n < 2 ^ 50) (h0 : 0 < m) (h1 : m < 2 ^ 4000) (h : ∀ (r : Int) (H' : Hp), 0 ≤ r → r < m → Src H' a (n + 1) → But a H H' → Q (.int r) H') : sp__law_next [.ref a, .int m] H Q E := ⟨a, n, m, rfl, hs, hn, h0, h1, h⟩
theorem y_one {xs : List V} (hs : Src H a n) (hn : n < 2 ^ 50) (hp : H p = some (.lst xs)) (hne : p ≠ a) (h0 : 0 < xs.length) (h1 : xs.length < 1000) (h : ∀ (v : V) (H' : Hp), v ∈ xs → Src H' a (n + 1) → But a H H' → Q v H') : sp__law_one [.ref a, .ref p] H Q E := ⟨a, p, n, xs, rfl, hs, hn, hp, hne, h0, h1, h⟩
theorem y_law_cell_at {ns : List Int} (hs : SqL K H a (ns.map V.int)) (hl : ns.length ≤ 63) (h0 : 0 ≤ n) (h : ∀ r : Int, Q (.int r) H) : sp__law_cell_at K [.ref a, .int n] H Q E := ⟨a, ns, n, rfl, hs, hl, h0, h⟩
/-- a method of a drum: its arguments first -/
def methK (C : Addr) (m : Str) (sp : Sp) (E : XK) (tA : TA) (σ : L2.St) (Q : VK) (x : V) (H : Hp) : Prop := ∃ a dx fs, x = .ref a ∧ H a = some (.ins C dx fs) ∧ fs.lookup m = none ∧ tA σ H fun vs H2 => sp (x :: vs) H2 Q E
theorem x_meth {C : Addr} {m : Str} {sp : Sp} {ta : TE} {tA : TA} (h : ta σ H fun x H1 => methK C m sp E tA σ Q x H1) : tMeth C m sp [] E ta tA σ H Q := by
  unfold tMeth
  simp only [List.append_nil]
  exact h
theorem x_methD {m : Str} {sp : Sp} {tA : TA} (d : Drm K H p f s) (h1 : (¬ m = "_step") ∧ ¬ m = "_first") (h : tA σ H fun vs H2 => sp (.ref p :: vs) H2 Q E) : methK (He.ga K "Drum") m sp E tA σ Q (.ref p) H := by
  obtain ⟨dx, e⟩ := d.ob
  exact ⟨p, dx, _, rfl, e, dfl_no _ _ h1.1 h1.2, h⟩
theorem nm_where : (¬ ("where" : Str) = "_step") ∧ ¬ ("where" : Str) = "_first" := ⟨by decide +kernel, by decide +kernel⟩
theorem nm_size : (¬ ("size" : Str) = "_step") ∧ ¬ ("size" : Str) = "_first" := ⟨by decide +kernel, by decide +kernel⟩
theorem nm_begins : (¬ ("begins" : Str) = "_step") ∧ ¬ ("begins" : Str) = "_first" := ⟨by decide +kernel, by decide +kernel⟩
theorem nm_first : (¬ ("first" : Str) = "_step") ∧ ¬ ("first" : Str) = "_first" := ⟨by decide +kernel, by decide +kernel⟩
theorem nm_step : (¬ ("step" : Str) = "_step") ∧ ¬ ("step" : Str) = "_first" := ⟨by decide +kernel, by decide +kernel⟩
theorem nm_cell_at : (¬ ("cell_at" : Str) = "_step") ∧ ¬ ("cell_at" : Str) = "_first" := ⟨by decide +kernel, by decide +kernel⟩
theorem nm_filled : (¬ ("filled" : Str) = "_step") ∧ ¬ ("filled" : Str) = "_first" := ⟨by decide +kernel, by decide +kernel⟩
theorem nm_turn_of : (¬ ("_turn_of" : Str) = "_step") ∧ ¬ ("_turn_of" : Str) = "_first" := ⟨by decide +kernel, by decide +kernel⟩
/-- a field of a drum -/
def fldK (K : PySem.W.Frag) (f : Str) (Q : VK) (x : V) (H : Hp) : Prop := ∃ a C dx fs v, x = .ref a ∧ H a = some (.ins C dx fs) ∧ Cls K C ∧ NoAttr K C f ∧ fs.lookup f = some v ∧ Q v H
theorem x_fld {g : Str} {ta : TE} (h : ta σ H fun x H1 => fldK K g Q x H1) : tFld K ta g σ H Q := h
theorem x_fst (cl : Cls K (He.ga K "Drum")) (na : NoAttr K (He.ga K "Drum") "_first") (d : Drm K H p f s) (h : Q (.int f) H) : fldK K "_first" Q (.ref p) H := by
  obtain ⟨dx, e⟩ := d.ob
  exact ⟨p, _, dx, _, _, rfl, e, cl, na, dfl_first _ _, h⟩
theorem x_stp (cl : Cls K (He.ga K "Drum")) (na : NoAttr K (He.ga K "Drum") "_step") (d : Drm K H p f s) (h : Q (.int s) H) : fldK K "_step" Q (.ref p) H := by
  obtain ⟨dx, e⟩ := d.ob
  exact ⟨p, _, dx, _, _, rfl, e, cl, na, dfl_step _ _, h⟩
/-- Drum(first, step) -/
def mkP (K : PySem.W.Frag) (Q : VK) (E : XK) (vs : List V) (H1 : Hp) : Prop := ∀ x dx, H1 x = none → H1 dx = none → dx ≠ x →
  sp_Drumu__initu_ K (.ref x :: vs) (upd (upd H1 dx (.own x)) x (.ins (He.ga K "Drum") dx [])) (fun v H2 => v = .non ∧ Q (.ref x) H2) E
theorem x_make {tA : TA} (h : tA σ H fun vs H1 => mkP K Q E vs H1) : tMake (He.ga K "Drum") (sp_Drumu__initu_ K) [] E tA σ H Q := by
  unfold tMake
  simp only [List.append_nil]
  exact h
theorem x_mkP (f1 : 1 ≤ f) (f2 : f < 10 ^ 15) (s1 : 0 ≤ s) (s2 : s < 10 ^ 15) (k : ∀ (x : Addr) (H' : Hp), H x = none → Same H H' → Drm K H' x f s → Q (.ref x) H') : mkP K Q E [.int f, .int s] H := by
  intro x dx hx hd hne
  refine ⟨x, dx, f, s, rfl, upd_same, f1, f2, s1, s2, rfl, ?_⟩
  rw [upd_upd]
  refine k x _ hx (fun b o e => ?_) ⟨⟨dx, upd_same⟩, f1, f2, s1, s2⟩
  rw [upd_ne (ne_of_none e hx), upd_ne (ne_of_none e hd)]
  exact e
end
end Wm
namespace Wm
open PySem PySem.Spec PyProof.Rows L2
def rLn (K : PySem.W.Frag) : List V → Hp → VK → Prop := fun xs H Q => ∃ x n, xs = [x] ∧ LenV K x H n ∧ Q (.int n) H
theorem cl_len {X : Cx} : CallR X (.builtin "len") (rLn X.K) := call_len
def rMx : List V → Hp → VK → Prop := fun xs H Q => ∃ i j, xs = [.int i, .int j] ∧ Q (.int (if j > i then j else i)) H
theorem cl_max {X : Cx} (hc : X.calm = true) : CallR X (.builtin "max") rMx := call_max2 hc
def rMn : List V → Hp → VK → Prop := fun xs H Q => ∃ i j, xs = [.int i, .int j] ∧ Q (.int (if j < i then j else i)) H
theorem cl_min {X : Cx} (hc : X.calm = true) : CallR X (.builtin "min") rMn := call_min2 hc
def rIn1 : List V → Hp → VK → Prop := fun xs H Q => (∃ i, xs = [.int i] ∧ Q (.int i) H) ∨ ∃ k, xs = [.bl k] ∧ Q (.int (if k then 1 else 0)) H
theorem cl_int {X : Cx} : CallR X (.type "int") rIn1 := call_int1
section
variable {K : PySem.W.Frag} {σ σ' : L2.St} {H : Hp} {Q : VK} {E : XK} {D : Ends} {p a q : Addr} {xs ys : List V} {v w x : V} {R : L2.St → Hp → Prop}
theorem x_set {i : Nat} (e : σ.set i (some v) = σ') (h : R σ' H) : gName i v σ H R := by subst e; exact h
theorem x_gTup {n : Nat} {t : TGs} (e : H a = some (.tup xs)) (l : xs.length = n) (h : t xs σ H R) : gTup K n t (.ref a) σ H R := ⟨a, xs, rfl, .inl (.inl e), l, h⟩
theorem x_gCons {t : TG} {u : TGs} {r : List V} (h : t v σ H fun σ' H' => u r σ' H' R) : gCons t u (v :: r) σ H R := ⟨v, r, rfl, h⟩
theorem x_gNil (h : R σ H) : gNil [] σ H R := ⟨rfl, h⟩
theorem x_gSub {to ti : TE} {t : TSet} (h : to σ H fun o H1 => ti σ H1 fun i H2 => t o i v H2 fun H3 => R σ H3) : gSub to ti t v σ H R := h
theorem x_setL {k : Int} {j : Nat} {R : Hp → Prop} (e : H p = some (.lst xs)) (i : ixN xs.length k = some j) (h : R (upd H p (.lst (xs.set j v)))) : rSetL (.ref p) (.int k) v H R := ⟨p, xs, k, j, rfl, rfl, e, i, h⟩
theorem x_ixL {k : Int} (e : SqL K H p xs) (i : atI xs k = some v) (h : Q v H) : rIxL K (.ref p) (.int k) H Q := ⟨p, xs, k, v, rfl, rfl, e, i, h⟩
theorem x_ixT {k : Int} (e : H p = some (.tup xs)) (i : atI xs k = some v) (h : Q v H) : rIxT K (.ref p) (.int k) H Q := ⟨p, xs, k, v, rfl, rfl, .inl (.inl e), i, h⟩
theorem sql {xs : List V} (e : H p = some (.lst xs)) : SqL K H p xs := .inl (.inl e)
theorem x_parK {i j : Nat} {tA : TA} (h : tA σ H fun vs H1 => ∃ v w, vs = [v, w] ∧ D.nx ((σ.set i (some v)).set j (some w)) H1) : tPar i j tA D σ H := h
theorem x_par2 {i j : Nat} (e : (σ.set i (some v)).set j (some w) = σ') (h : R σ' H) : ∃ v' w', [v, w] = [v', w'] ∧ R ((σ.set i (some v')).set j (some w')) H := ⟨v, w, rfl, by rw [e]; exact h⟩
/-- len of a list, a tuple -/
theorem x_lenL (e : SqL K H p xs) (h : Q (.int xs.length) H) : rLn K [.ref p] H Q := ⟨_, _, rfl, .inl ⟨_, e, rfl⟩, h⟩
theorem x_lenT (e : H p = some (.tup xs)) (h : Q (.int xs.length) H) : rLn K [.ref p] H Q := ⟨_, _, rfl, .inr ⟨_, .inl (.inl e), rfl⟩, h⟩
theorem x_max {i j : Int} (h : Q (.int (max i j)) H) : rMx [.int i, .int j] H Q := ⟨i, j, rfl, by
  have e : (if j > i then j else i) = max i j := by split <;> omega
  rw [e]; exact h⟩
theorem x_min {i j : Int} (h : Q (.int (min i j)) H) : rMn [.int i, .int j] H Q := ⟨i, j, rfl, by
  have e : (if j < i then j else i) = min i j := by split <;> omega
  rw [e]; exact h⟩
theorem x_intB {k : Bool} (h : Q (.int (if k = true then 1 else 0)) H) : rIn1 [.bl k] H Q := .inr ⟨k, rfl, h⟩
theorem x_isqrt {i : Int} (h0 : 0 ≤ i) (hl : Bd 12000 i) (h : Q (.int ((PySem.Float64.isqrt i.toNat : Nat) : Int)) H) : rIsqrt [.int i] H Q := ⟨i, rfl, h0, by
  have : i.toNat.log2 < 12000 := PySem.Flt.log2_lt_of (by decide) (by unfold Bd at hl; omega)
  omega, h⟩
theorem x_gcd {i j : Int} (h : Q (.int ((Nat.gcd i.natAbs j.natAbs : Nat) : Int)) H) : rGcd [.int i, .int j] H Q := ⟨i, j, rfl, h⟩
theorem x_isi {i : Int} {T : String} {b : Bool} (e : kitB "int" T = some b) (h : Q (.bl b) H) : rIsi K [.int i, .ty T] H Q := ⟨_, _, _, _, b, rfl, .ty T, .base (.int i), kit_ty e, h⟩
theorem x_isiT {T : String} {b : Bool} (ht : H p = some (.tup xs)) (e : kitB "tuple" T = some b) (h : Q (.bl b) H) : rIsi K [.ref p, .ty T] H Q := ⟨_, _, _, _, b, rfl, .ty T, .base (.tup ht), kit_ty e, h⟩
/-- tuples of ints, not the same -/
theorem dpAll_ints : ∀ ns : List Int, DpAll K H (ns.map V.int) (ns.map PyData.int)
  | [] => .nil
  | n :: r => .cons (.int n) (dpAll_ints r)
theorem eqvAll_ints : ∀ ns ms : List Int, PyData.eqvAll (ns.map PyData.int) (ms.map PyData.int) = decide (ns = ms)
  | [], [] => by simp [PyData.eqvAll]
  | [], _ :: _ => by simp [PyData.eqvAll]
  | _ :: _, [] => by simp [PyData.eqvAll]
  | n :: r, m :: t => by
    have h := eqvAll_ints r t
    simp only [List.map_cons, PyData.eqvAll, PyData.eqv, h]
    by_cases c : n = m <;> by_cases d : r = t <;> simp [c, d]
end
end Wm
namespace Wm
open PySem PySem.Spec PyProof.Rows L2
theorem canLayAll_ints : ∀ ns : List Int, PyData.canLayAll0 (ns.map PyData.int) = true
  | [] => by simp [PyData.canLayAll0]
  | n :: r => by simp [PyData.canLayAll0, PyData.canLay0, canLayAll_ints r]
theorem depthAll_ints : ∀ ns : List Int, PyData.depthAll (ns.map PyData.int) = 0
  | [] => by simp [PyData.depthAll]
  | n :: r => by simp [PyData.depthAll, PyData.depth, depthAll_ints r]
theorem shaped_ints (ns : List Int) (h : ns.length ≤ 100000) : SeqAt.shaped (.tuple (ns.map PyData.int)) = true := by
  unfold SeqAt.shaped
  have h1 : PyData.canLay0 (.tuple (ns.map PyData.int)) = true := by
    unfold PyData.canLay0
    simp [canLayAll_ints]
  have h2 : PyData.depth (.tuple (ns.map PyData.int)) = 1 := by
    unfold PyData.depth
    simp [depthAll_ints]
  rw [h1, h2]
  decide
section
variable {K : PySem.W.Frag} {H : Hp} {Q : VK} {p q : Addr} {ns ms : List Int}
theorem x_neT (hp : H p = some (.tup (ns.map V.int))) (hq : H q = some (.tup (ms.map V.int))) (l1 : ns.length ≤ 100000) (l2 : ms.length ≤ 100000) (h : Q (.bl (!decide (ns = ms))) H) : rNeD K (.ref p) (.ref q) H Q :=
  ⟨_, _, .tup (.inl (.inl hp)) (dpAll_ints ns), .tup (.inl (.inl hq)) (dpAll_ints ms), shaped_ints ns l1, shaped_ints ms l2, by
    have e : PyData.eqv (.tuple (ns.map PyData.int)) (.tuple (ms.map PyData.int)) = decide (ns = ms) := by
      rw [PyData.eqv, eqvAll_ints]
    rw [e]; exact h⟩
theorem x_eqT (hp : H p = some (.tup (ns.map V.int))) (hq : H q = some (.tup (ms.map V.int))) (l1 : ns.length ≤ 100000) (l2 : ms.length ≤ 100000) (h : Q (.bl (decide (ns = ms))) H) : rEqD K (.ref p) (.ref q) H Q :=
  ⟨_, _, .tup (.inl (.inl hp)) (dpAll_ints ns), .tup (.inl (.inl hq)) (dpAll_ints ms), shaped_ints ns l1, shaped_ints ms l2, by
    have e : PyData.eqv (.tuple (ns.map PyData.int)) (.tuple (ms.map PyData.int)) = decide (ns = ms) := by
      rw [PyData.eqv, eqvAll_ints]
    rw [e]; exact h⟩
end
end Wm

namespace Wm
open PySem PySem.Spec PyProof.Rows L2
theorem atI_in {xs : List V} {r : Int} (h0 : 0 ≤ r) (h1 : r < xs.length) : ∃ v, v ∈ xs ∧ atI xs r = some v := by
  obtain ⟨n, rfl⟩ := Int.eq_ofNat_of_zero_le h0
  have hl : n < xs.length := by omega
  exact ⟨xs[n], List.getElem_mem _, atI_nat (List.getElem?_eq_getElem hl)⟩
theorem SqL_but {K : PySem.W.Frag} {H H' : Hp} {a p : Addr} {xs : List V} (n : p ≠ a) (h : But a H H') (x : SqL K H p xs) : SqL K H' p xs := by
  rcases x with (e | ⟨o, e⟩) | e
  · exact .inl (.inl (h _ _ n e))
  · exact .inl (.inr ⟨o, h _ _ n e⟩)
  · exact .inr e
end Wm
namespace Wm
open PySem PySem.Spec PyProof.Rows L2
section
variable {X : Cx} {K : PySem.W.Frag} {σ : L2.St} {H : Hp} {Q : VK} {D : Ends} {p a q : Addr} {xs zs : List V}
/-- a written power -/
theorem pe_pw {i j r : Int} {k1 k2 : Nat} {p1 p2 pos : Pos} (hc : CPow i j) (e : i ^ j.toNat = r) : PE X (.BinOp (.Constant (.int i) k1 p1) .Pow (.Constant (.int j) k2 p2) pos) (tC (.int r)) :=
  ⟨fun pins s σ H Q I h => (pe_op op_pow pe_int pe_int).run pins s σ H Q I ⟨i, j, rfl, rfl, hc, by show Q (.int (i ^ j.toNat)) H; rw [e]; exact h⟩⟩
theorem x_cat (h1 : H p = some (.lst xs)) (h2 : H q = some (.lst zs)) (l : xs.length + zs.length ≤ sizeLine) (h : ∀ r, H r = none → Q (.ref r) (upd H r (.lst (xs ++ zs)))) : rCat (.ref p) (.ref q) H Q := ⟨p, q, xs, zs, rfl, rfl, h1, h2, l, h⟩
theorem x_sl {r : V → Option Int → Option Int → Hp → VK → Prop} {te : TE} {tl th : TO} (h : te σ H fun x H1 => tl σ H1 fun l H2 => th σ H2 fun u H3 => r x l u H3 Q) : tSl r te tl th σ H Q := h
theorem x_noPart {R : Option Int → Hp → Prop} (h : R none H) : tNoPart σ H R := h
def asI (R : Option Int → Hp → Prop) (x : V) (H : Hp) : Prop := ∃ i, x = .int i ∧ R (some i) H
theorem x_part {t : TE} {R : Option Int → Hp → Prop} (h : t σ H fun x H1 => asI R x H1) : tPart t σ H R := h
theorem x_asI {i : Int} {R : Option Int → Hp → Prop} (h : R (some i) H) : asI R (.int i) H := ⟨i, rfl, h⟩
theorem x_slL {lo hi : Option Int} (e : SqL K H p xs) (h : ∀ r, H r = none → Q (.ref r) (upd H r (.lst (cutV xs lo hi)))) : rSlL K (.ref p) lo hi H Q := ⟨p, xs, rfl, e, h⟩
theorem cut_in {xs : List V} {lo hi : Option Int} {v : V} (h : v ∈ cutV xs lo hi) : v ∈ xs := by
  unfold cutV at h
  exact List.mem_of_mem_drop (List.mem_of_mem_take h)
/-- a for over a list -/
def forK (K : PySem.W.Frag) (g : TG) (tb : TS) (D : Ends) (σ : L2.St) (x : V) (H : Hp) : Prop := ∃ a, x = .ref a ∧ (∃ xs, SqL K H a xs) ∧ ∃ W : Nat → Nat → L2.St → Hp → Prop, (∃ m, W 0 m σ H) ∧ ∀ i m σ H, W i m σ H →
      ((Itl K a).stop i H ∧ D.nx σ H) ∨ ((Itl K a).go i H ∧ ∃ N : L2.St → Hp → Prop, (∀ σ' H', N σ' H' → ∃ m', m' < m ∧ W (i + 1) m' σ' H') ∧ ∀ x H', (Itl K a).yld i H x H' → g x σ H' fun σ2 H2 => tb { D with nx := N, ct := N, bk := D.nx } σ2 H2)
theorem x_for {tl : TE} {g : TG} {tb : TS} (h : tl σ H fun x H1 => forK K g tb D σ x H1) : tFor (iList K tl) g tb D σ H := h
theorem x_forL {g : TG} {tb : TS} (e : H p = some (.lst xs)) (I : Nat → L2.St → Hp → Prop) (h0 : I 0 σ H)
    (hs : ∀ i x σ H, xs[i]? = some x → I i σ H → H p = some (.lst xs) → g x σ H fun σ2 H2 => tb { D with nx := fun σ H => I (i + 1) σ H ∧ H p = some (.lst xs), ct := fun σ H => I (i + 1) σ H ∧ H p = some (.lst xs), bk := D.nx } σ2 H2)
    (hd : ∀ σ H, I xs.length σ H → D.nx σ H) : forK K g tb D σ (.ref p) H :=
  ⟨p, rfl, ⟨_, sql e⟩, for_list (K := K) (a := p) (xs := xs) (fun i σ H => I i σ H ∧ H p = some (.lst xs)) ⟨h0, e⟩ (fun _ _ _ _ q => sql q.2) (fun i x σ H hi q => hs i x σ H hi q.1 q.2) (fun σ H q => hd σ H q.1)⟩
end
/-- the cells of a law -/
theorem cells_int {ns : List Int} {r : Int} {lo hi : Option Int} {x : V} (h : x ∈ [V.int r] ++ cutV (ns.map V.int) lo hi) : ∃ z, x = .int z := by
  rcases List.mem_append.mp h with h | h
  · exact ⟨r, by simpa using h⟩
  · obtain ⟨z, _, e⟩ := List.mem_map.mp (cut_in h)
    exact ⟨z, e.symm⟩
theorem cells_len {ns : List Int} {r : Int} {lo hi : Option Int} (h : ns.length ≤ 63) : ([V.int r]).length + (cutV (ns.map V.int) lo hi).length ≤ sizeLine := by
  have := cutV_length (ns.map V.int) lo hi
  rw [List.length_map] at this
  have : ([V.int r]).length = 1 := rfl
  have : 1000 ≤ sizeLine := by decide
  omega
end Wm

namespace Wm
open PySem PySem.Spec PyProof.Rows L2
section
variable {K : PySem.W.Frag} {H : Hp} {Q : VK} {p q : Addr} {a b c a' b' c' : Int}
theorem x_neT3 (hp : H p = some (.tup [.int a, .int b, .int c])) (hq : H q = some (.tup [.int a', .int b', .int c'])) (h : Q (.bl (!decide (a = a' ∧ b = b' ∧ c = c'))) H) : rNeD K (.ref p) (.ref q) H Q :=
  x_neT (ns := [a, b, c]) (ms := [a', b', c']) hp hq (Nat.le_of_ble_eq_true rfl) (Nat.le_of_ble_eq_true rfl) (by
    have e : decide ([a, b, c] = [a', b', c']) = decide (a = a' ∧ b = b' ∧ c = c') := by simp
    rw [e]; exact h)
theorem x_neT2 (hp : H p = some (.tup [.int a, .int b])) (hq : H q = some (.tup [.int a', .int b'])) (h : Q (.bl (!decide (a = a' ∧ b = b'))) H) : rNeD K (.ref p) (.ref q) H Q :=
  x_neT (ns := [a, b]) (ms := [a', b']) hp hq (Nat.le_of_ble_eq_true rfl) (Nat.le_of_ble_eq_true rfl) (by
    have e : decide ([a, b] = [a', b']) = decide (a = a' ∧ b = b') := by simp
    rw [e]; exact h)
theorem x_eqT3 (hp : H p = some (.tup [.int a, .int b, .int c])) (hq : H q = some (.tup [.int a', .int b', .int c'])) (h : Q (.bl (decide (a = a' ∧ b = b' ∧ c = c'))) H) : rEqD K (.ref p) (.ref q) H Q :=
  x_eqT (ns := [a, b, c]) (ms := [a', b', c']) hp hq (Nat.le_of_ble_eq_true rfl) (Nat.le_of_ble_eq_true rfl) (by
    have e : decide ([a, b, c] = [a', b', c']) = decide (a = a' ∧ b = b' ∧ c = c') := by simp
    rw [e]; exact h)
theorem x_eqT2 (hp : H p = some (.tup [.int a, .int b])) (hq : H q = some (.tup [.int a', .int b'])) (h : Q (.bl (decide (a = a' ∧ b = b'))) H) : rEqD K (.ref p) (.ref q) H Q :=
  x_eqT (ns := [a, b]) (ms := [a', b']) hp hq (Nat.le_of_ble_eq_true rfl) (Nat.le_of_ble_eq_true rfl) (by
    have e : decide ([a, b] = [a', b']) = decide (a = a' ∧ b = b') := by simp
    rw [e]; exact h)
end
theorem mul_bd {a b A B : Int} (a0 : 0 ≤ a) (aA : a ≤ A) (b0 : 0 ≤ b) (bB : b ≤ B) : 0 ≤ a * b ∧ a * b ≤ A * B :=
  ⟨Int.mul_nonneg a0 b0, Int.mul_le_mul aA bB b0 (by omega)⟩
theorem mul_ge1 {a b : Int} (a0 : 1 ≤ a) (b0 : 1 ≤ b) : 1 ≤ a * b := by
  have := Int.mul_le_mul a0 b0 (by decide) (by omega)
  omega
end Wm
namespace Wm
open PySem PySem.Spec PyProof.Rows L2
theorem x_cut2 {K : PySem.W.Frag} {H : Hp} {Q : VK} {p : Addr} {x y z : V} (e : H p = some (.tup [x, y, z])) (h : ∀ r, H r = none → Q (.ref r) (upd H r (.tup [x, y]))) : rSlT K (.ref p) none (some 2) H Q :=
  ⟨p, _, rfl, .inl (.inl e), (by show ¬ (HT.sIx 3 0 none = 0 ∧ HT.sIx 3 3 (some 2) = 3); decide), fun r hr => h r hr⟩
end Wm

/-! Calls with keywords: a method's, a function's. -/
namespace Wm
open PySem PySem.Spec PyProof.Rows L2
theorem kbn {K : PySem.W.Frag} {x qual : Str} {params : Arguments} {body : List Stmt} {scope : Scope} {kws : List (Str × V)} {f : Addr} {fd : FuncData} {ps ks : List Str} {n : Nat} {g : List Value → List Value → List Value} {gV : List V → List V → List V}
    (F : FunD K x qual params body scope [] kws f fd)
    (h : ∀ (kV doc pm : Value) (an : Option Addr) (cdv ct : Value) (us ws : List Value), us.length = n → ws.length = ks.length → bindArgs (PySem.W.fnOf x qual params body scope .none kV doc pm an cdv ct) ⟨us, ks.zip ws⟩ = pure (ps.zip (g us ws)))
    (rel : ∀ {vs : List V} {us : List Value} {zs : List V} {ws : List Value}, Vals vs us → Vals zs ws → Vals (gV vs zs) (g us ws)) : KBn K fd ps n ks g gV := by
  obtain ⟨oc, od, dV, kV, doc, pm, an, cdv, ct, osl, rfl, lk, hcd, hD, hK⟩ := F.ex
  rcases hD with ⟨_, rfl⟩ | ⟨e, _⟩
  · exact ⟨fun s us ws _ l1 l2 => .of_eq (h kV doc pm an cdv ct us ws l1 l2), rel⟩
  · exact absurd rfl e
def tMethN (C : Addr) (m : Str) (k : Nat) (sp : Sp) (gV : List V → List V → List V) (E : XK) (ta : TE) (tk : TA) : TE := fun σ H Q => ta σ H fun x H1 => ∃ a dx fs, x = .ref a ∧ H1 a = some (.ins C dx fs) ∧ fs.lookup m = none ∧
  tk σ H1 fun zs H2 => zs.length = k ∧ sp (gV [x] zs) H2 Q E
section
variable {X : Cx} {CX : CXT} {k : Nat} {f C : Addr} {fd : FuncData} {ps ks : List Str} {sp : Sp} {E : XK} {m : Str} {p pos apos : Pos} {o : Expr} {kws : List Keyword} {ta : TE} {tk : TA} {g : List Value → List Value → List Value} {gV : List V → List V → List V}
/-- o.m(k = v, ..) -/
theorem pe_methN {pl : Sem Bool} (he : PE X o ta) (c : Cls X.K C) (hm : Meth X.K C m f) (F : FnOk X.prog X.w X.K X.mg X.base CX k f fd ps sp) (hr : Room k X.A) (hb : KBn X.K fd ps 1 ks g gV) (hx : Passes CX X E)
    (hkw : PK X kws tk) (hall : (backToKw pos (keywordEach kws X.env)).all (·.1.isSome) = true := by rfl) (hks : (backToKw pos (keywordEach kws X.env)).filterMap (·.1) = ks := by rfl)
    (hpl : ((backTo pos (starEach [] X.env)).any (·.1) || (backToKw pos (keywordEach kws X.env)).any (·.1.isNone)) = false := by rfl)
    (ht : eval (.Call (.Attribute o m apos) [] kws pos) X.env = (do
      let ov ← eval o X.env
      standAt apos.atName
      let (f, first) ← holding [ov] (getMethod ov m pl)
      callWith pos f first (backTo pos (starEach [] X.env)) (backToKw pos (keywordEach kws X.env))) := by rfl) :
    PE X (.Call (.Attribute o m apos) [] kws pos) (tMethN C m ks.length sp gV E ta tk) := by
  refine ⟨fun pins s σ H Q I h => ?_⟩
  refine PySem.W.methodCall_KW (pl := pl) (thn (he.run pins s σ H _ I h) fun u s1 ⟨x, H1, I1, rx, a, dx, fs, ex, ea, l, q⟩ => ?_) ht
  subst ex
  obtain rfl : u = Value.ref a := rx
  refine getmeth_ok I1 ea c hm l ?_
  refine PySem.W.callWith_KW0 (first := [.ref a]) (h₀ := X.base) I.ok.mod.kin hm.kp hall (thn (hkw.run pos pins s1 σ H1 _ I1 q) fun ws s2 ⟨zs, H2, I2, rz, l2, q2⟩ => ⟨I2.kIn, ?_⟩) hpl
  rw [hks]
  exact run_fnN (us := [.ref a]) (vs := [.ref a]) F hr hb hx I2 (.cons rfl .nil) rz rfl l2 q2
end
def methNK (C : Addr) (m : Str) (k : Nat) (sp : Sp) (gV : List V → List V → List V) (E : XK) (tk : TA) (σ : L2.St) (Q : VK) (x : V) (H : Hp) : Prop := ∃ a dx fs, x = .ref a ∧ H a = some (.ins C dx fs) ∧ fs.lookup m = none ∧ tk σ H fun zs H2 => zs.length = k ∧ sp (gV [x] zs) H2 Q E
section
variable {K : PySem.W.Frag} {σ : L2.St} {H : Hp} {Q : VK} {E : XK} {p : Addr} {f s : Int} {C : Addr} {m : Str} {k : Nat} {sp : Sp} {gV : List V → List V → List V} {ta : TE} {tk : TA}
theorem x_methN (h : ta σ H fun x H1 => methNK C m k sp gV E tk σ Q x H1) : tMethN C m k sp gV E ta tk σ H Q := h
theorem x_methND (d : Drm K H p f s) (h1 : (¬ m = "_step") ∧ ¬ m = "_first") (h : tk σ H fun zs H2 => zs.length = k ∧ sp (gV [.ref p] zs) H2 Q E) : methNK (He.ga K "Drum") m k sp gV E tk σ Q (.ref p) H := by
  obtain ⟨dx, e⟩ := d.ob
  exact ⟨p, dx, _, rfl, e, dfl_no _ _ h1.1 h1.2, h⟩
theorem x_len1 {A : Prop} {xs : List V} {n : Nat} (e : xs.length = n) (h : A) : xs.length = n ∧ A := ⟨e, h⟩
end
/-- in the order of the text: the positional ones, then the keywords' -/
theorem rel_app {vs : List V} {us : List Value} {zs : List V} {ws : List Value} (h : Vals vs us) (k : Vals zs ws) : Vals (vs ++ zs) (us ++ ws) := h.append k
end Wm
namespace Wm
open PySem PySem.Spec PyProof.Rows L2
/-! ### while -/
def whK (tb : TS) (D : Ends) (I : L2.St → Hp → Prop) (n : Nat) (μ : L2.St → Nat) (σ : L2.St) (b : Bool) (H : Hp) : Prop :=
  if b = true then ∃ N : L2.St → Hp → Prop, (∀ σ' H', N σ' H' → ∃ m', m' < n ∧ (m' = μ σ' ∧ I σ' H')) ∧ tb { D with nx := N, ct := N, bk := D.nx } σ H else D.nx σ H
theorem x_while {c : TT} {tb : TS} {D : Ends} {σ : L2.St} {H : Hp} (I : L2.St → Hp → Prop) (μ : L2.St → Nat) (h0 : I σ H) (hs : ∀ σ H, I σ H → c σ H fun b H1 => whK tb D I (μ σ) μ σ b H1) : tWhile c tb D σ H := by
  refine ⟨fun m σ H => m = μ σ ∧ I σ H, ⟨_, rfl, h0⟩, ?_⟩
  rintro m σ H ⟨rfl, p⟩
  exact hs σ H p
theorem x_wh {tb : TS} {D : Ends} {I : L2.St → Hp → Prop} {n : Nat} {μ : L2.St → Nat} {σ : L2.St} {H : Hp} {p : Prop} [Decidable p]
    (h1 : p → tb { D with nx := fun σ' H' => I σ' H' ∧ μ σ' < n, ct := fun σ' H' => I σ' H' ∧ μ σ' < n, bk := D.nx } σ H) (h2 : ¬ p → D.nx σ H) : whK tb D I n μ σ (decide p) H := by
  unfold whK
  by_cases hp : p
  · rw [decide_eq_true hp]
    exact iteT ⟨_, fun σ' H' h => ⟨_, h.2, rfl, h.1⟩, h1 hp⟩
  · rw [decide_eq_false hp]
    exact iteF (h2 hp)
/-- the int in a slot -/
def sI (i : Nat) (σ : L2.St) : Int := match σ[i]? with
  | some (some (.int h)) => h
  | _ => 0
/-! ### a for over a range -/
def forR (g : TG) (tb : TS) (D : Ends) (σ : L2.St) (J : It) (H : Hp) : Prop := ∃ W : Nat → Nat → L2.St → Hp → Prop, (∃ m, W 0 m σ H) ∧ ∀ i m σ H, W i m σ H →
      (J.stop i H ∧ D.nx σ H) ∨ (J.go i H ∧ ∃ N : L2.St → Hp → Prop, (∀ σ' H', N σ' H' → ∃ m', m' < m ∧ W (i + 1) m' σ' H') ∧ ∀ x H', J.yld i H x H' → g x σ H' fun σ2 H2 => tb { D with nx := N, ct := N, bk := D.nx } σ2 H2)
def asR1 (R : It → Hp → Prop) (vs : List V) (H : Hp) : Prop := ∃ j : Int, vs = [.int j] ∧ -(2 ^ 62) ≤ j ∧ j < 2 ^ 62 ∧ R (Itr 0 j.toNat) H
theorem x_for1 {ta : TA} {g : TG} {tb : TS} {D : Ends} {σ : L2.St} {H : Hp} (h : ta σ H fun vs H1 => asR1 (fun J H => forR g tb D σ J H) vs H1) : tFor (iRng1 ta) g tb D σ H := h
theorem x_asR1 {R : It → Hp → Prop} {H : Hp} {j : Int} (h1 : 0 ≤ j) (h2 : j < 2 ^ 62) (h : R (Itr 0 j.toNat) H) : asR1 R [.int j] H := ⟨j, rfl, by omega, h2, h⟩
theorem x_forR {g : TG} {tb : TS} {D : Ends} {σ : L2.St} {H : Hp} {lo : Int} {n : Nat} (I : Nat → L2.St → Hp → Prop) (h0 : I 0 σ H)
    (hs : ∀ i σ H, i < n → I i σ H → g (.int (lo + i)) σ H fun σ2 H2 => tb { D with nx := I (i + 1), ct := I (i + 1), bk := D.nx } σ2 H2) (hd : ∀ σ H, I n σ H → D.nx σ H) : forR g tb D σ (Itr lo n) H := for_range I h0 hs hd
end Wm
namespace Wm
open PySem PySem.Spec PyProof.Rows L2
theorem Bd.lt {k : Nat} {x : Int} (h : Bd k x) : x < 2 ^ k := by
  unfold Bd at h
  have h1 : ((x.natAbs : Nat) : Int) < ((2 ^ k : Nat) : Int) := by exact_mod_cast h
  have h2 : ((2 ^ k : Nat) : Int) = 2 ^ k := by simp
  omega
theorem Bd.gt {k : Nat} {x : Int} (h : Bd k x) : -2 ^ k < x := by
  unfold Bd at h
  have h1 : ((x.natAbs : Nat) : Int) < ((2 ^ k : Nat) : Int) := by exact_mod_cast h
  have h2 : ((2 ^ k : Nat) : Int) = 2 ^ k := by simp
  omega
section
variable {K : PySem.W.Frag} {σ : L2.St} {H : Hp} {Q : VK} {p a q : Addr} {f s n : Int} {xs zs : List V} {o u : HO}
/-- a method of a list -/
def bmK (K : PySem.W.Frag) (T : String) (r : V → List V → Hp → VK → Prop) (t : TA) (σ : L2.St) (Q : VK) (x : V) (H : Hp) : Prop := tyV K T x H ∧ t σ H fun xs H2 => r x xs H2 Q
theorem x_bm {T : String} {r : V → List V → Hp → VK → Prop} {to : TE} {t : TA} (h : to σ H fun x H1 => bmK K T r t σ Q x H1) : tBM K T r to t σ H Q := h
theorem x_bmL {r : V → List V → Hp → VK → Prop} {t : TA} (e : SqL K H p xs) (h : t σ H fun ys H2 => r (.ref p) ys H2 Q) : bmK K "list" r t σ Q (.ref p) H := ⟨.inl ⟨rfl, _, e⟩, h⟩
theorem x_append {y : V} (e : H p = some (.lst xs)) (l : xs.length ≤ 1000) (h : Q .non (upd H p (.lst (xs ++ [y])))) : rAppend (.ref p) [y] H Q := ⟨p, xs, y, rfl, rfl, e, Nat.lt_of_le_of_lt l (by decide), h⟩
theorem Drm.set (e : H q = some (.lst xs)) (x : Drm K H p f s) : Drm K (L2.upd H q o) p f s := ⟨x.ob.elim fun dx e2 => ⟨dx, by rw [upd_ne (ne_of e2 e (by intro z; cases z))]; exact e2⟩, x.f1, x.f2, x.s0, x.s2⟩
theorem Src.set (ne : a ≠ q) (x : Src H a n) : Src (L2.upd H q o) a n := by
  obtain ⟨s0, s1, s2, e2, r⟩ := x
  exact ⟨s0, s1, s2, by rw [upd_ne ne]; exact e2, r⟩
theorem at_set (ne : p ≠ q) (x : H p = some o) : L2.upd H q u p = some o := by rw [upd_ne ne]; exact x
end
end Wm
namespace Wm
open PySem PySem.Spec PyProof.Rows L2
section
variable {X : Cx}
def tPar3 (i j k : Nat) (ta : TA) : TS := fun D σ H => ta σ H fun vs H1 => ∃ u v w, vs = [u, v, w] ∧ D.nx (((σ.set k (some w)).set j (some v)).set i (some u)) H1
/-- a, b, c = x, y, z with plain local names: stored from the right -/
theorem ps_par3 {i j k : Nat} {x y z : Str} {a b c : Expr} {ta : TA} {px py pz pt pos : Pos} {kt k2 pt2} (hc : X.calm = true) (hN : X.N.Nodup) (hi : X.N[i]? = some x) (hj : X.N[j]? = some y) (hk : X.N[k]? = some z)
    (hx : X.env.scope.names.lookup x = some .local) (hy : X.env.scope.names.lookup y = some .local) (hz : X.env.scope.names.lookup z = some .local) (ha : PA X [a, b, c] ta)
    (hw : swappedStores [.Tuple [.Name x px, .Name y py, .Name z pz] kt pt] (.Tuple [a, b, c] k2 pt2) X.env = pure (some [x, y, z]))
    (hs : swapsWithSole [.Tuple [.Name x px, .Name y py, .Name z pz] kt pt] (.Tuple [a, b, c] k2 pt2) pos.line X.env = pure false := by rfl) :
    PS X (.Assign [.Tuple [.Name x px, .Name y py, .Name z pz] kt pt] (.Tuple [a, b, c] k2 pt2) pos) (tPar3 i j k ta) := by
  refine ⟨fun pins s σ H D I h => ?_⟩
  rw [exec_Assign_arm]
  refine wpAny_bind (wpAny_standAt ?_)
  rw [hs]
  refine wpAny_bind (wpAny_pure ?_)
  rw [if_neg (by decide)]
  refine wpAny_bind (Tuple_ (thn (ha.run _ pins s σ H _ I h) fun us s1 ⟨vs, H1, I1, r1, q1⟩ => ?_))
  obtain ⟨v1, v2, v3, e1, q1⟩ := q1
  subst e1
  obtain ⟨u1, u2, u3, rfl, r1', r2', r3'⟩ : ∃ u1 u2 u3, us = [u1, u2, u3] ∧ RelV v1 u1 ∧ RelV v2 u2 ∧ RelV v3 u3 := by
    cases r1 with
    | cons p q =>
      cases q with
      | cons p' q' =>
        cases q' with
        | cons p'' q'' =>
          cases q''
          exact ⟨_, _, _, rfl, p, p', p''⟩
  refine wpAny_newObj_type ?_ (by show 3 ≤ sizeLine; decide)
  have I2 : L2.Inv X pins σ H1 { s1 with heap := s1.heap.push { cls := .type "tuple", data := .seq [u1, u2, u3].toArray } } := I1.kept (t' := s1.toks) fun b o e => Heap.get?_push_of_some _ e
  rw [hw]
  refine wpAny_bind (wpAny_pure ?_)
  show wpAny (model X.prog X.w) X.A (do rule "assign.swapped-stores"; let items ← unpackItems (.ref s1.heap.objs.size) 3 none; assignInOrder [fun v => bindName X.env z v, fun v => bindName X.env y v, fun v => bindName X.env x v] items.reverse; pure Flow.next) _ _ _
  refine wpAny_bind (wpAny_rule (wpAny_bind (unpackItems_tuple (items := #[u1, u2, u3]) (I.ok.hd hc) (IsTup.new s1.heap _) fun h' hx' => ?_)))
  have I3 := I2.kept (h' := h') (t' := s1.toks) fun b o e => hx' b o (Nat.ne_of_lt (Heap.lt_size e)) e
  show wpAny _ _ (assignInOrder [fun v => bindName X.env z v, fun v => bindName X.env y v, fun v => bindName X.env x v] [u3, u2, u1] >>= fun _ => pure Flow.next) _ _ _
  refine wpAny_bind (assignInOrder_cons (wpAny_bindName (store_ok I3 hN hk (.inl hz) r3' (fun s2 I4 => ?_) (.inr hz))))
  refine assignInOrder_cons (wpAny_bindName (store_ok I4 hN hj (.inl hy) r2' (fun s3 I5 => ?_) (.inr hy)))
  refine assignInOrder_cons (wpAny_bindName (store_ok I5 hN hi (.inl hx) r1' (fun s4 I6 => assignInOrder_nil (wpAny_pure ?_)) (.inr hx)))
  exact ⟨_, H1, I6, q1⟩
end
section
variable {σ σ' : L2.St} {H : Hp} {D : Ends} {u v w : V} {R : L2.St → Hp → Prop}
theorem x_parK3 {i j k : Nat} {tA : TA} (h : tA σ H fun vs H1 => ∃ u v w, vs = [u, v, w] ∧ D.nx (((σ.set k (some w)).set j (some v)).set i (some u)) H1) : tPar3 i j k tA D σ H := h
theorem x_par3 {i j k : Nat} (e : ((σ.set k (some w)).set j (some v)).set i (some u) = σ') (h : R σ' H) : ∃ u' v' w', [u, v, w] = [u', v', w'] ∧ R (((σ.set k (some w')).set j (some v')).set i (some u')) H := ⟨u, v, w, rfl, by rw [e]; exact h⟩
end
end Wm
namespace Wm
open PySem PySem.Spec PyProof.Rows L2
def rIsNn : R2 := fun x y H Q => y = .non ∧ Q (.bl (decide (x = .non))) H
theorem cp_isN {X : Cx} : OpR X (compareOp .Is) rIsNn := op_isN
def rNotNn : R2 := fun x y H Q => y = .non ∧ Q (.bl (!decide (x = .non))) H
theorem cp_notN {X : Cx} : OpR X (compareOp .IsNot) rNotNn := op_notN
section
variable {H : Hp} {Q : VK} {p : Addr} {i : Int}
theorem x_isN0 (h : Q (.bl true) H) : rIsNn .non .non H Q := ⟨rfl, by simpa using h⟩
theorem x_isN1 (h : Q (.bl false) H) : rIsNn (.ref p) .non H Q := ⟨rfl, by simpa using h⟩
theorem x_isN2 (h : Q (.bl false) H) : rIsNn (.int i) .non H Q := ⟨rfl, by simpa using h⟩
theorem x_notN0 (h : Q (.bl false) H) : rNotNn .non .non H Q := ⟨rfl, by simpa using h⟩
theorem x_notN1 (h : Q (.bl true) H) : rNotNn (.ref p) .non H Q := ⟨rfl, by simpa using h⟩
theorem x_notN2 (h : Q (.bl true) H) : rNotNn (.int i) .non H Q := ⟨rfl, by simpa using h⟩
end
end Wm

/-! A for over a range of great numbers. -/
namespace Wm
open PySem PySem.Spec PyProof.Rows L2
theorem turn_long {P : Program} {w : World} {K : PySem.W.Frag} {tg : Expr} (it : Addr) (lo : Int) (n : Nat) : L2.Turn P w K tg (Itr lo n) [it] it (fun i h => IsLongIter h it (lo + (i : Nat) * 1) ((n : Int) - (i : Nat)) 1) where
  mem := by simp
  obj := fun i h st b hb => by
    have e : b = it := by simpa using hb
    subst e
    exact ⟨_, st, fun v z => by
      have z' : Data.fields _ = Data.cell v := z
      cases z'⟩
  keep := fun i h h' st k => k it (by simp) _ st
  item := by
    intro X hP hw hK hc i pins s σ H E I hf st hg
    subst hP hw hK
    obtain ⟨f0, f1, f2, f3, f4, f5⟩ := hf it (by simp)
    have W := Walks.longrange (prog := X.prog) (w := X.w) (I.ok.hd hc) it lo 1 n
    refine W.item i s _ _ hg st fun v h' tk hv st' kk => ?_
    obtain ⟨t, rfl⟩ := hv
    have I1 : L2.Inv X pins σ H { s with heap := h', toks := tk } := I.turned (fun b o hb e => kk b o (by simpa using hb) e) f0 f1 f3 f4 f5
    refine ⟨_, rfl, go_of (s := { s with heap := h', toks := tk }) (n := "longrange_iterator") st' rfl rfl (by decide) ⟨.int (lo + i), H, I1, ⟨t, ?_⟩, ⟨rfl, rfl⟩, st', fun b hb => (hf b hb).1⟩⟩
    rw [Int.mul_one]
  done := by
    intro X hP hw hK hc i pins s σ H E I hf st hg
    subst hP hw hK
    obtain ⟨f0, f1, f2, f3, f4, f5⟩ := hf it (by simp)
    exact wpAny_pyNext_long_end (I.ok.hd hc) st (by have : n ≤ i := hg; omega) fun h' eb => ⟨rfl, I.turned (t' := s.toks) (fun b o hb e => eb b o hb e) f0 f1 f3 f4 f5⟩
  self := fun _ _ _ _ _ st h => wpAny_pyIter_longiter st h
section
variable {X : Cx} {tg : Expr}
theorem range_itW {pins : List (Addr × Obj)} {σ : L2.St} {H : Hp} {s : Shared} {R : It → Hp → Prop} {E : Value → Shared → Prop} {lo hi : Int} {t u v : Tok} {tk : Nat} (I : L2.Inv X pins σ H s)
    (q : R (Itr lo (hi - lo).toNat) H) : wpAny (model X.prog X.w) X.A (pyIter (.ref s.heap.objs.size)) (PIE X pins σ tg R) E { s with heap := s.heap.push { cls := .type "range", data := .fields #[.int lo t, .int hi u, .int 1 v] }, toks := tk } := by
  have I1 : L2.Inv X pins σ H { s with heap := s.heap.push { cls := .type "range", data := .fields #[.int lo t, .int hi u, .int 1 v] }, toks := tk } := I.kept fun b o e => Heap.get?_push_of_some _ e
  have e1 : lo + ((0 : Nat) : Int) * 1 = lo := by simp
  have e2 : (((hi - lo).toNat : Nat) : Int) - ((0 : Nat) : Int) = Builtin.Range.rangeSize lo hi 1 := by rw [rangeSize_one]; split <;> omega
  have fp : ∀ b ∈ [(s.heap.push { cls := .type "range", data := .fields #[.int lo t, .int hi u, .int 1 v] }).objs.size], FpOk X pins H b := fun b hb => by
    have e : b = (s.heap.push { cls := .type "range", data := .fields #[.int lo t, .int hi u, .int 1 v] }).objs.size := by simpa using hb
    subst e
    exact I1.fpOk (Nat.le_refl _) (I1.hok.fresh (Nat.le_refl _))
  cases hs : Builtin.Range.small lo hi 1 with
  | true =>
    refine wpAny_pyIter_range (IsRange.new ..) hs ?_
    refine ⟨(s.heap.push { cls := .type "range", data := .fields #[.int lo t, .int hi u, .int 1 v] }).objs.size, [(s.heap.push { cls := .type "range", data := .fields #[.int lo t, .int hi u, .int 1 v] }).objs.size], _, _, H, rfl,
      I1.kept (t' := tk) fun b o e => Heap.get?_push_of_some _ e, turn_range _ lo (hi - lo).toNat, ?_, fp, q⟩
    show IsRangeIter _ _ (lo + ((0 : Nat) : Int) * 1) ((((hi - lo).toNat : Nat) : Int) - ((0 : Nat) : Int)) 1
    rw [e1, e2]
    exact Heap.get?_push_size _ rfl
  | false =>
    refine wpAny_pyIter_longrange (IsRange.new ..) hs ?_
    refine ⟨(s.heap.push { cls := .type "range", data := .fields #[.int lo t, .int hi u, .int 1 v] }).objs.size, [(s.heap.push { cls := .type "range", data := .fields #[.int lo t, .int hi u, .int 1 v] }).objs.size], _, _, H, rfl,
      I1.kept (t' := tk) fun b o e => Heap.get?_push_of_some _ e, turn_long _ lo (hi - lo).toNat, ?_, fp, q⟩
    show IsLongIter _ _ (lo + ((0 : Nat) : Int) * 1) ((((hi - lo).toNat : Nat) : Int) - ((0 : Nat) : Int)) 1
    rw [e1, e2]
    exact Heap.get?_push_size _ rfl
def iRngW (ta : TA) : TI := fun σ H R => ta σ H fun vs H1 => ∃ i j : Int, vs = [.int i, .int j] ∧ R (Itr i (j - i).toNat) H1
theorem pi_rangeW {a b : Expr} {ta : TA} {p pos : Pos} (hg : Gl X "range") (hm : X.mg "range" = none) (ha : PA X [a, b] ta) (hs : starEach [a, b] X.env = [(false, eval a X.env), (false, eval b X.env)] := by rfl) (hs2 : starEach [b] X.env = [(false, eval b X.env)] := by rfl) :
    PI X tg (.Call (.Name "range" p) [a, b] [] pos) (iRngW ta) := by
  refine ⟨fun pins s σ H R I h => ?_⟩
  refine Call_ (ld_blt I hg hm boot_range (PyProof.Rows.callWith_type1 (thn (ha.run pos pins s σ H _ I h) fun us s1 ⟨vs, H1, I1, r1, q1⟩ => ?_) (by rw [hs, hs2]) (by rw [hs2]; rfl)))
  obtain ⟨i, j, e, q⟩ := q1
  subst e
  cases r1 with
  | cons r rr =>
    cases rr with
    | cons r' rr =>
      cases rr
      obtain ⟨t, rfl⟩ := r
      obtain ⟨t', rfl⟩ := r'
      exact call_range_2 (range_itW I1 q)
end
def asRW (R : It → Hp → Prop) (vs : List V) (H : Hp) : Prop := ∃ i j : Int, vs = [.int i, .int j] ∧ R (Itr i (j - i).toNat) H
theorem x_forW {ta : TA} {g : TG} {tb : TS} {D : Ends} {σ : L2.St} {H : Hp} (h : ta σ H fun vs H1 => asRW (fun J H => forR g tb D σ J H) vs H1) : tFor (iRngW ta) g tb D σ H := h
theorem x_asRW {R : It → Hp → Prop} {H : Hp} {i j : Int} (h : R (Itr i (j - i).toNat) H) : asRW R [.int i, .int j] H := ⟨i, j, rfl, h⟩
end Wm

/-! Promises of the laws' own helpers. -/
namespace Wm
open PySem PySem.Spec PyProof.Rows L2
/-- a drum is drawn: a new tuple of its first and its step -/
def sp__law_drum : Sp := fun vs H Q _ => ∃ (a : Addr) (n : Int), vs = [.ref a] ∧ Src H a n ∧ n < 2 ^ 45 ∧
  ∀ (p : Addr) (H' : Hp) (f s : Int), 1 ≤ f → f ≤ 10 ^ 14 → 0 ≤ s → s ≤ 10 ^ 14 → Src H' a (n + 20) → But a H H' → H' p = some (.tup [.int f, .int s]) → Q (.ref p) H'
def sp__law_begins : Sp := fun vs H Q _ => ∃ f s t : Int, vs = [.int f, .int s, .int t] ∧ Bd 300 f ∧ Bd 300 s ∧ Bd 300 t ∧ Q (.int (Bg f s t)) H
def sp__law_turn : Sp := fun vs H Q _ => ∃ f s c : Int, vs = [.int f, .int s, .int c] ∧ 1 ≤ f ∧ Bd 200 f ∧ 0 ≤ s ∧ Bd 200 s ∧ 0 ≤ c ∧ c < 2 ^ 250 ∧ Q (.int (tOf f s c)) H
def sp__law_great : Sp := fun vs H Q _ => ∃ (a : Addr) (n m : Int), vs = [.ref a, .int m] ∧ Src H a n ∧ n < 2 ^ 46 ∧ 0 < m ∧ m < 2 ^ 1000 ∧
  ∀ (r : Int) (H' : Hp), 0 ≤ r → r < m → Src H' a (n + 3) → But a H H' → Q (.int r) H'
section
variable {K : PySem.W.Frag} {σ : L2.St} {H : Hp} {Q : VK} {E : XK} {p a q : Addr} {f s t c l n m : Int}
theorem y_law_drum (hs : Src H a n) (hn : n < 2 ^ 45) (h : ∀ (p : Addr) (H' : Hp) (f s : Int), 1 ≤ f → f ≤ 10 ^ 14 → 0 ≤ s → s ≤ 10 ^ 14 → Src H' a (n + 20) → But a H H' → H' p = some (.tup [.int f, .int s]) → Q (.ref p) H') : sp__law_drum [.ref a] H Q E := ⟨a, n, rfl, hs, hn, h⟩
theorem y_law_begins (bf : Bd 300 f) (bs : Bd 300 s) (bt : Bd 300 t) (h : Q (.int (Bg f s t)) H) : sp__law_begins [.int f, .int s, .int t] H Q E := ⟨f, s, t, rfl, bf, bs, bt, h⟩
theorem y_law_turn (f1 : 1 ≤ f) (bf : Bd 200 f) (s0 : 0 ≤ s) (bs : Bd 200 s) (c0 : 0 ≤ c) (c1 : c < 2 ^ 250) (h : Q (.int (tOf f s c)) H) : sp__law_turn [.int f, .int s, .int c] H Q E := ⟨f, s, c, rfl, f1, bf, s0, bs, c0, c1, h⟩
theorem y_great (hs : Src H a n) (hn : n < 2 ^ 46) (h0 : 0 < m) (h1 : m < 2 ^ 1000) (h : ∀ (r : Int) (H' : Hp), 0 ≤ r → r < m → Src H' a (n + 3) → But a H H' → Q (.int r) H') : sp__law_great [.ref a, .int m] H Q E := ⟨a, n, m, rfl, hs, hn, h0, h1, h⟩
end
/-- as the laws reckon it -/
theorem bg_law (f s t : Int) : t * f + s * t * (t - 1) / 2 = Bg f s t := by
  unfold Bg
  have h := tri2 t
  have e : s * t * (t - 1) = 2 * (s * (t * (t - 1) / 2)) := by
    generalize t * (t - 1) / 2 = d at *
    grind
  rw [e]
  omega
end Wm

/-! What touches what: the promises of the gaps. -/
namespace Wm
open PySem PySem.Spec PyProof.Rows L2
def metL (f s l z t : Int) : Int := Bg f s t + l * (f + t * s) / z
def metH (f s l z t : Int) : Int := Bg f s t + ((l + 1) * (f + t * s) - 1) / z
/-- a cell's place, its turn's size -/
def plc (f s c : Int) : Int := c - Bg f s (tOf f s c)
def siz (f s c : Int) : Int := f + tOf f s c * s
def bnL (f s c : Int) : Int := metL f s (plc f s c) (siz f s c) (tOf f s c - 1)
def bnH (f s c : Int) : Int := metH f s (plc f s c) (siz f s c) (tOf f s c - 1)
def abL (f s c : Int) : Int := metL f s (plc f s c) (siz f s c) (tOf f s c + 1)
def abH (f s c : Int) : Int := metH f s (plc f s c) (siz f s c) (tOf f s c + 1)
def gcdI (f s : Int) : Int := ((Nat.gcd f.natAbs s.natAbs : Nat) : Int)
def secN (f s c : Int) : Int := plc f s c / (siz f s c / gcdI f s)
def secC (f s c : Int) : Int := Bg f s (tOf f s c) / gcdI f s + (plc f s c) % (siz f s c / gcdI f s)
def pieI (f s n : Int) : Int := if tOf f s (n - 1) = 0 then 0 else gcdI f s * (tOf f s (n - 1) - 1) + secN f s (n - 1) + 1
def paiI (f s n : Int) : Int := if tOf f s (n - 1) = 0 then 0 else (n - f) + (bnH f s (n - 1) + 1) - pieI f s n
theorem plc_nn {f s c : Int} (hf : 1 ≤ f) (hs : 0 ≤ s) (hc : 0 ≤ c) : 0 ≤ plc f s c := by have := tOf_le hf hs hc; unfold plc; omega
theorem plc_lt {f s c : Int} (hf : 1 ≤ f) (hs : 0 ≤ s) (hc : 0 ≤ c) : plc f s c < siz f s c := by have := tOf_gt hf hs hc; unfold plc siz; omega
theorem gcdI_pos {f s : Int} (hf : 1 ≤ f) : 1 ≤ gcdI f s := by
  unfold gcdI
  have := Nat.gcd_pos_of_pos_left s.natAbs (show 0 < f.natAbs by omega)
  omega
theorem gcdI_le {f s : Int} (hf : 1 ≤ f) : gcdI f s ≤ f := by
  unfold gcdI
  have := Nat.le_of_dvd (show 0 < f.natAbs by omega) (Nat.gcd_dvd_left f.natAbs s.natAbs)
  omega
theorem gcdI_dl (f s : Int) : gcdI f s ∣ f := PySem.W.mg_dvd_left f s
theorem gcdI_dr (f s : Int) : gcdI f s ∣ s := PySem.W.mg_dvd_right f s
theorem gcdI_dz (f s t : Int) : gcdI f s ∣ f + t * s := Int.dvd_add (gcdI_dl f s) (Int.dvd_mul_of_dvd_right (gcdI_dr f s))
theorem dvd_part {g z : Int} (hg : 1 ≤ g) (hz : 1 ≤ z) (h : g ∣ z) : 1 ≤ z / g ∧ g * (z / g) = z := by
  obtain ⟨k, rfl⟩ := h
  rw [Int.mul_ediv_cancel_left _ (by omega)]
  refine ⟨?_, rfl⟩
  apply Classical.byContradiction
  intro q
  have := Int.mul_le_mul_of_nonneg_left (show k ≤ 0 by omega) (show 0 ≤ g by omega)
  omega
/-! ### promises -/
section
variable (K : PySem.W.Frag)
def sp__met : Sp := fun vs H Q _ => ∃ (p : Addr) (f s l z t : Int), vs = [.ref p, .int l, .int z, .int t] ∧ Drm K H p f s ∧ 0 ≤ l ∧ l < z ∧ z < 2 ^ 1000 ∧ 0 ≤ t ∧ t < 2 ^ 1000 ∧
  ∀ (q : Addr) (H' : Hp), Same H H' → H' q = some (.tup [.int (metL f s l z t), .int (metH f s l z t)]) → Q (.ref q) H'
def sp_beneath : Sp := fun vs H Q _ => ∃ (p : Addr) (f s c : Int), vs = [.ref p, .int c] ∧ Drm K H p f s ∧ 0 ≤ c ∧ c < 2 ^ 700 ∧
  (tOf f s c = 0 → ∀ H', Same H H' → Q .non H') ∧ (¬ tOf f s c = 0 → ∀ (q : Addr) (H' : Hp), Same H H' → H' q = some (.tup [.int (bnL f s c), .int (bnH f s c)]) → Q (.ref q) H')
def sp_above : Sp := fun vs H Q _ => ∃ (p : Addr) (f s n c : Int), vs = [.ref p, .int n, .int c] ∧ Drm K H p f s ∧ 1 ≤ n ∧ 0 ≤ c ∧ c < n ∧ n < 2 ^ 700 ∧
  (n ≤ abL f s c → ∀ H', Same H H' → Q .non H') ∧ (¬ n ≤ abL f s c → ∀ (q : Addr) (H' : Hp), Same H H' → H' q = some (.tup [.int (abL f s c), .int (min (abH f s c) (n - 1))]) → Q (.ref q) H')
def sp__sectors : Sp := fun vs H Q _ => ∃ (p : Addr) (f s : Int), vs = [.ref p] ∧ Drm K H p f s ∧ Q (.int (gcdI f s)) H
def sp_sector : Sp := fun vs H Q _ => ∃ (p : Addr) (f s c : Int), vs = [.ref p, .int c] ∧ Drm K H p f s ∧ 0 ≤ c ∧ c < 2 ^ 700 ∧
  ∀ (q : Addr) (H' : Hp), Same H H' → H' q = some (.tup [.int (secN f s c), .int (secC f s c)]) → Q (.ref q) H'
def sp_pieces : Sp := fun vs H Q _ => ∃ (p : Addr) (f s n : Int), vs = [.ref p, .int n] ∧ Drm K H p f s ∧ 1 ≤ n ∧ n < 2 ^ 600 ∧ ∀ H', Same H H' → Q (.int (pieI f s n)) H'
def sp_pairs : Sp := fun vs H Q _ => ∃ (p : Addr) (f s n : Int), vs = [.ref p, .int n] ∧ Drm K H p f s ∧ 1 ≤ n ∧ n < 2 ^ 600 ∧ ∀ H', Same H H' → Q (.int (paiI f s n)) H'
end
section
variable {K : PySem.W.Frag} {H : Hp} {Q : VK} {E : XK} {p a q : Addr} {f s t c l n m z : Int}
theorem y_met (d : Drm K H p f s) (h0 : 0 ≤ l) (h1 : l < z) (h2 : z < 2 ^ 1000) (h3 : 0 ≤ t) (h4 : t < 2 ^ 1000) (h : ∀ (q : Addr) (H' : Hp), Same H H' → H' q = some (.tup [.int (metL f s l z t), .int (metH f s l z t)]) → Q (.ref q) H') : sp__met K [.ref p, .int l, .int z, .int t] H Q E := ⟨p, f, s, l, z, t, rfl, d, h0, h1, h2, h3, h4, h⟩
theorem y_beneath (d : Drm K H p f s) (h0 : 0 ≤ c) (h1 : c < 2 ^ 700) (h : tOf f s c = 0 → ∀ H', Same H H' → Q .non H') (h' : ¬ tOf f s c = 0 → ∀ (q : Addr) (H' : Hp), Same H H' → H' q = some (.tup [.int (bnL f s c), .int (bnH f s c)]) → Q (.ref q) H') : sp_beneath K [.ref p, .int c] H Q E := ⟨p, f, s, c, rfl, d, h0, h1, h, h'⟩
theorem y_above (d : Drm K H p f s) (h0 : 1 ≤ n) (h1 : 0 ≤ c) (h2 : c < n) (h3 : n < 2 ^ 700) (h : n ≤ abL f s c → ∀ H', Same H H' → Q .non H') (h' : ¬ n ≤ abL f s c → ∀ (q : Addr) (H' : Hp), Same H H' → H' q = some (.tup [.int (abL f s c), .int (min (abH f s c) (n - 1))]) → Q (.ref q) H') : sp_above K [.ref p, .int n, .int c] H Q E := ⟨p, f, s, n, c, rfl, d, h0, h1, h2, h3, h, h'⟩
theorem y_sectors (d : Drm K H p f s) (h : Q (.int (gcdI f s)) H) : sp__sectors K [.ref p] H Q E := ⟨p, f, s, rfl, d, h⟩
theorem y_sector (d : Drm K H p f s) (h0 : 0 ≤ c) (h1 : c < 2 ^ 700) (h : ∀ (q : Addr) (H' : Hp), Same H H' → H' q = some (.tup [.int (secN f s c), .int (secC f s c)]) → Q (.ref q) H') : sp_sector K [.ref p, .int c] H Q E := ⟨p, f, s, c, rfl, d, h0, h1, h⟩
theorem y_pieces (d : Drm K H p f s) (h0 : 1 ≤ n) (h1 : n < 2 ^ 600) (h : ∀ H', Same H H' → Q (.int (pieI f s n)) H') : sp_pieces K [.ref p, .int n] H Q E := ⟨p, f, s, n, rfl, d, h0, h1, h⟩
theorem y_pairs (d : Drm K H p f s) (h0 : 1 ≤ n) (h1 : n < 2 ^ 600) (h : ∀ H', Same H H' → Q (.int (paiI f s n)) H') : sp_pairs K [.ref p, .int n] H Q E := ⟨p, f, s, n, rfl, d, h0, h1, h⟩
end
end Wm
namespace Wm
open PySem PySem.Spec PyProof.Rows L2
/-! ### promises of the laws' helpers, for gaps -/
def meets (u z l e : Int) : Prop := u * e < (l + 1) * z ∧ l * z < (u + 1) * e
instance (u z l e : Int) : Decidable (meets u z l e) := inferInstanceAs (Decidable (_ ∧ _))
def sp__law_meet : Sp := fun vs H Q _ => ∃ u z l e : Int, vs = [.int u, .int z, .int l, .int e] ∧ Bd 300 u ∧ Bd 300 z ∧ Bd 300 l ∧ Bd 300 e ∧ Q (.bl (decide (meets u z l e))) H
def sp__law_first_over : Sp := fun vs H Q _ => ∃ l z m : Int, vs = [.int l, .int z, .int m] ∧ 0 ≤ l ∧ l < z ∧ Bd 300 z ∧ 1 ≤ m ∧ Bd 300 m ∧ Q (.int (l * m / z)) H
def sp__law_spot : Sp := fun vs H Q _ => ∃ (a : Addr) (n f s e : Int), vs = [.ref a, .int f, .int s, .int e] ∧ Src H a n ∧ n < 2 ^ 40 ∧ 1 ≤ f ∧ f ≤ 10 ^ 14 ∧ 0 ≤ s ∧ s ≤ 10 ^ 14 ∧ 0 ≤ e ∧ e ≤ 9 ∧
  ∀ (p : Addr) (H' : Hp) (t l : Int), e ≤ t → t ≤ e + 10 ^ 7 → 0 ≤ l → l < f + t * s → Src H' a (n + 20) → But a H H' → H' p = some (.tup [.int t, .int l, .int (f + t * s), .int (Bg f s t + l)]) → Q (.ref p) H'
def sp__law_common : Sp := fun vs H Q _ => ∃ x y : Int, vs = [.int x, .int y] ∧ 0 ≤ x ∧ 0 ≤ y ∧ Q (.int (gcdI x y)) H
def sp__law_roll : Sp := fun vs H Q _ => ∃ (a : Addr) (n f s : Int), vs = [.ref a, .int f, .int s] ∧ Src H a n ∧ n < 2 ^ 40 ∧ 1 ≤ f ∧ f ≤ 10 ^ 14 ∧ 0 ≤ s ∧ s ≤ 10 ^ 14 ∧
  ∀ (p : Addr) (H' : Hp) (t l : Int), 1 ≤ t → t ≤ 10 ^ 7 → 1 ≤ l → l ≤ f + t * s → Src H' a (n + 20) → But a H H' → H' p = some (.tup [.int t, .int l, .int (Bg f s t + l)]) → Q (.ref p) H'
section
variable {K : PySem.W.Frag} {H : Hp} {Q : VK} {E : XK} {p a q : Addr} {f s t c l n m z u e x y : Int}
theorem y_meet (b1 : Bd 300 u) (b2 : Bd 300 z) (b3 : Bd 300 l) (b4 : Bd 300 e) (h : Q (.bl (decide (meets u z l e))) H) : sp__law_meet [.int u, .int z, .int l, .int e] H Q E := ⟨u, z, l, e, rfl, b1, b2, b3, b4, h⟩
theorem y_first_over (h0 : 0 ≤ l) (h1 : l < z) (bz : Bd 300 z) (m1 : 1 ≤ m) (bm : Bd 300 m) (h : Q (.int (l * m / z)) H) : sp__law_first_over [.int l, .int z, .int m] H Q E := ⟨l, z, m, rfl, h0, h1, bz, m1, bm, h⟩
theorem y_spot (hs : Src H a n) (hn : n < 2 ^ 40) (f1 : 1 ≤ f) (f2 : f ≤ 10 ^ 14) (s1 : 0 ≤ s) (s2 : s ≤ 10 ^ 14) (e0 : 0 ≤ e) (e9 : e ≤ 9)
    (h : ∀ (p : Addr) (H' : Hp) (t l : Int), e ≤ t → t ≤ e + 10 ^ 7 → 0 ≤ l → l < f + t * s → Src H' a (n + 20) → But a H H' → H' p = some (.tup [.int t, .int l, .int (f + t * s), .int (Bg f s t + l)]) → Q (.ref p) H') : sp__law_spot [.ref a, .int f, .int s, .int e] H Q E := ⟨a, n, f, s, e, rfl, hs, hn, f1, f2, s1, s2, e0, e9, h⟩
theorem y_common (h0 : 0 ≤ x) (h1 : 0 ≤ y) (h : Q (.int (gcdI x y)) H) : sp__law_common [.int x, .int y] H Q E := ⟨x, y, rfl, h0, h1, h⟩
theorem y_roll (hs : Src H a n) (hn : n < 2 ^ 40) (f1 : 1 ≤ f) (f2 : f ≤ 10 ^ 14) (s1 : 0 ≤ s) (s2 : s ≤ 10 ^ 14)
    (h : ∀ (p : Addr) (H' : Hp) (t l : Int), 1 ≤ t → t ≤ 10 ^ 7 → 1 ≤ l → l ≤ f + t * s → Src H' a (n + 20) → But a H H' → H' p = some (.tup [.int t, .int l, .int (Bg f s t + l)]) → Q (.ref p) H') : sp__law_roll [.ref a, .int f, .int s] H Q E := ⟨a, n, f, s, rfl, hs, hn, f1, f2, s1, s2, h⟩
end
theorem gcd_zero {x : Int} (h : 0 ≤ x) : gcdI x 0 = x := by unfold gcdI; simp; omega
theorem gcd_turn {x y : Int} (hx : 0 ≤ x) (hy : 0 < y) : gcdI y (x.fmod y) = gcdI x y := by
  obtain ⟨n, rfl⟩ := Int.eq_ofNat_of_zero_le hx
  obtain ⟨m, rfl⟩ := Int.eq_ofNat_of_zero_le (Int.le_of_lt hy)
  rw [Int.fmod_eq_emod_of_nonneg _ (by omega)]
  unfold gcdI
  have e : ((n : Int) % (m : Int)) = ((n % m : Nat) : Int) := by simp
  rw [e]
  simp only [Int.natAbs_natCast]
  rw [Nat.gcd_comm m (n % m), ← Nat.gcd_rec, Nat.gcd_comm]
end Wm
namespace Wm
open PySem PySem.Spec PyProof.Rows L2
theorem meets_mk {u z l e : Int} (h1 : u * e < (l + 1) * z) (h2 : l * z < (u + 1) * e) : meets u z l e := And.intro h1 h2
theorem meets_1 {u z l e : Int} (h : meets u z l e) : u * e < (l + 1) * z := And.left h
theorem meets_2 {u z l e : Int} (h : meets u z l e) : l * z < (u + 1) * e := And.right h
theorem div_bd (a z : Int) (hz : 0 < z) : a / z * z ≤ a ∧ a < a / z * z + z := by
  have h1 := Int.mul_ediv_add_emod a z
  have h2 := Int.emod_nonneg a (show z ≠ 0 by omega)
  have h3 := Int.emod_lt_of_pos a hz
  have h4 : a / z * z = z * (a / z) := Int.mul_comm _ _
  omega
theorem div_is {a z q : Int} (hz : 0 < z) (h1 : q * z ≤ a) (h2 : a < q * z + z) : a / z = q := by
  obtain ⟨b1, b2⟩ := div_bd a z hz
  generalize a / z = d at *
  apply Classical.byContradiction
  intro c
  rcases (by omega : d + 1 ≤ q ∨ q + 1 ≤ d) with e | e
  · have := Int.mul_le_mul_of_nonneg_right e (Int.le_of_lt hz)
    have e2 : (d + 1) * z = d * z + z := by grind
    omega
  · have := Int.mul_le_mul_of_nonneg_right e (Int.le_of_lt hz)
    have e2 : (q + 1) * z = q * z + z := by grind
    omega
/-- what lies on place l of a turn of z places: of one of m, no less, from lo to la -/
theorem over_facts {l z m : Int} (l0 : 0 ≤ l) (l1 : l < z) (hm : z ≤ m) :
    0 ≤ l * m / z ∧ l * m / z ≤ ((l + 1) * m - 1) / z ∧ ((l + 1) * m - 1) / z ≤ m - 1 ∧ meets (l * m / z) m l z ∧ (0 < l * m / z → ¬ meets (l * m / z - 1) m l z) ∧
    (l + 1 < z → (l + 1) * m / z - (if (!decide (meets ((l + 1) * m / z) m l z)) = true then 1 else 0) = ((l + 1) * m - 1) / z ∧ (l + 1) * m / z ≤ m) ∧ (¬ l + 1 < z → m - 1 = ((l + 1) * m - 1) / z) ∧
    meets (((l + 1) * m - 1) / z) m l z := by
  have z0 : 0 < z := by omega
  obtain ⟨a1, a2⟩ := div_bd (l * m) z z0
  obtain ⟨b1, b2⟩ := div_bd ((l + 1) * m - 1) z z0
  obtain ⟨c1, c2⟩ := div_bd ((l + 1) * m) z z0
  have e1 : (l + 1) * m = l * m + m := by grind
  have lm : 0 ≤ l * m := mul_nn l0 (by omega)
  have n0 : 0 ≤ l * m / z := Int.ediv_nonneg lm (by omega)
  have n1 : l * m / z ≤ ((l + 1) * m - 1) / z := Int.ediv_le_ediv z0 (by omega)
  have n3 : (l + 1) * m ≤ z * m := Int.mul_le_mul_of_nonneg_right (by omega) (by omega)
  have e3 : z * m = m * z := Int.mul_comm _ _
  have n2 : ((l + 1) * m - 1) / z ≤ m - 1 := by
    have : ((l + 1) * m - 1) / z < m := by
      rw [Int.ediv_lt_iff_lt_mul z0]
      omega
    omega
  have n4 : (l + 1) * m / z ≤ m := by
    have : (l + 1) * m / z ≤ m * z / z := Int.ediv_le_ediv z0 (by omega)
    rw [Int.mul_ediv_cancel _ (by omega)] at this
    exact this
  have n5 : ((l + 1) * m - 1) / z ≤ (l + 1) * m / z := Int.ediv_le_ediv z0 (by omega)
  generalize l * m / z = lo at *
  generalize ((l + 1) * m - 1) / z = la at *
  generalize (l + 1) * m / z = q at *
  have x1 : (lo + 1) * z = lo * z + z := by grind
  have x2 : (lo - 1 + 1) * z = lo * z := by grind
  have x3 : (q + 1) * z = q * z + z := by grind
  have x4 : (la + 1) * z = la * z + z := by grind
  have x5 : la * z ≤ q * z := Int.mul_le_mul_of_nonneg_right n5 (by omega)
  refine ⟨n0, n1, n2, meets_mk (by omega) (by omega), fun _ c => by have := meets_2 c; omega, fun c => ⟨?_, n4⟩, fun c => ?_, meets_mk (by omega) ?_⟩
  · by_cases d : meets q m l z
    · rw [decide_eq_true d]
      simp only [Bool.not_true, Bool.false_eq_true, if_false, Int.sub_zero]
      have := meets_1 d
      have : q * z ≤ (l + 1) * m - 1 := by omega
      apply Classical.byContradiction
      intro ne
      have : la + 1 ≤ q := by omega
      have := Int.mul_le_mul_of_nonneg_right this (Int.le_of_lt z0)
      omega
    · rw [decide_eq_false d]
      simp only [Bool.not_false, if_true]
      have : q * z = (l + 1) * m := by
        apply Classical.byContradiction
        intro ne
        exact d (meets_mk (by omega) (by omega))
      have y1 : la < q := by
        apply Classical.byContradiction
        intro c2
        have := Int.mul_le_mul_of_nonneg_right (show q ≤ la by omega) (Int.le_of_lt z0)
        omega
      apply Classical.byContradiction
      intro ne
      have := Int.mul_le_mul_of_nonneg_right (show la + 1 ≤ q - 1 by omega) (Int.le_of_lt z0)
      have y2 : (q - 1) * z = q * z - z := by grind
      omega
  · have e4 : l + 1 = z := by omega
    rw [e4] at b1 b2
    apply Classical.byContradiction
    intro ne
    have := Int.mul_le_mul_of_nonneg_right (show la + 1 ≤ m - 1 by omega) (Int.le_of_lt z0)
    have y2 : (m - 1) * z = m * z - z := by grind
    omega
  · have := Int.mul_le_mul_of_nonneg_right n1 (Int.le_of_lt z0)
    omega
theorem where_at {f s t l : Int} (hf : 1 ≤ f) (hs : 0 ≤ s) (ht : 0 ≤ t) (l0 : 0 ≤ l) (l1 : l < f + t * s) : tOf f s (Bg f s t + l) = t ∧ plc f s (Bg f s t + l) = l ∧ siz f s (Bg f s t + l) = f + t * s := by
  have h := bg_ge hf hs ht
  have e := tOf_eq hf hs ht (show Bg f s t ≤ Bg f s t + l by omega) (by omega) (by omega)
  refine ⟨e, ?_, ?_⟩
  · unfold plc; rw [e]; omega
  · unfold siz; rw [e]
theorem ab_at {f s t l : Int} (hf : 1 ≤ f) (hs : 0 ≤ s) (ht : 0 ≤ t) (l0 : 0 ≤ l) (l1 : l < f + t * s) :
    abL f s (Bg f s t + l) = Bg f s (t + 1) + l * (f + t * s + s) / (f + t * s) ∧ abH f s (Bg f s t + l) = Bg f s (t + 1) + ((l + 1) * (f + t * s + s) - 1) / (f + t * s) := by
  obtain ⟨e1, e2, e3⟩ := where_at hf hs ht l0 l1
  have e4 : f + (t + 1) * s = f + t * s + s := by grind
  unfold abL abH metL metH
  rw [e1, e2, e3, e4]
  exact ⟨rfl, rfl⟩
theorem x_iteJ {p A B C : Prop} [Decidable p] (h1 : p → C → A) (h2 : ¬ p → C → B) (h : C) : if decide p = true then A else B := x_ite (fun q => h1 q h) (fun q => h2 q h)
theorem x_neNN {K : PySem.W.Frag} {H : Hp} {Q : VK} (h : Q (.bl false) H) : rNeD K .non .non H Q := ⟨_, _, .non, .non, by decide, by decide, by
  have e : PyData.eqv .none .none = true := by rw [PyData.eqv]
  rw [e]; exact h⟩
end Wm

/-! Where drums are parted: fractions of the least bottom, the promises of told. -/
namespace Wm
/-! ### fractions of the least bottom -/
structure IsLA (l0 l1 h0 h1 t b : Int) : Prop where
  pos : 0 < b
  lo : l0 * b < t * l1
  hi : t * h1 ≤ h0 * b
  min : ∀ x y : Int, 0 < y → l0 * y < x * l1 → x * h1 ≤ h0 * y → b ≤ y ∧ t ≤ x
structure IsLF (l0 l1 h0 h1 t b : Int) : Prop where
  pos : 0 < b
  lo : l0 * b ≤ t * l1
  hi : t * h1 < h0 * b
  min : ∀ x y : Int, 0 < y → l0 * y ≤ x * l1 → x * h1 < h0 * y → b ≤ y ∧ t ≤ x
/-- what may be asked -/
structure VA (l0 l1 h0 h1 : Int) : Prop where
  kl0 : 0 ≤ l0
  kl1 : 1 ≤ l1
  kh0 : 1 ≤ h0
  kh1 : 1 ≤ h1
  lt : l0 * h1 < h0 * l1
  b0 : l0 < 2 ^ 60
  b1 : l1 < 2 ^ 60
  b2 : h0 < 2 ^ 60
  b3 : h1 < 2 ^ 60
structure VF (l0 l1 h0 h1 : Int) : Prop where
  kl0 : 1 ≤ l0
  kl1 : 1 ≤ l1
  kh0 : 1 ≤ h0
  kh1 : 0 ≤ h1
  lt : l0 * h1 < h0 * l1
  b0 : l0 < 2 ^ 60
  b1 : l1 < 2 ^ 60
  b2 : h0 < 2 ^ 60
  b3 : h1 < 2 ^ 60
theorem nn_mul {a b : Int} (ha : 0 ≤ a) (hb : 0 ≤ b) : 0 ≤ a * b := Int.mul_nonneg ha hb
theorem lt_of_mul {a b c : Int} (hc : 0 ≤ c) (h : a * c < b * c) : a < b := Int.lt_of_mul_lt_mul_right h hc
theorem la_ret {l0 l1 h0 h1 w : Int} (v : VA l0 l1 h0 h1) (e1 : w * l1 ≤ l0) (e2 : l0 < (w + 1) * l1) (w0 : 0 ≤ w) (c : (w + 1) * h1 ≤ h0) : IsLA l0 l1 h0 h1 (w + 1) 1 where
  pos := by decide
  lo := by omega
  hi := by omega
  min := fun x y hy a b => by
    refine ⟨by omega, ?_⟩
    have h1 : w * l1 * y ≤ l0 * y := Int.mul_le_mul_of_nonneg_right e1 (by omega)
    have h2 : (w * y) * l1 < x * l1 := by
      have : w * l1 * y = (w * y) * l1 := by grind
      omega
    have h3 := lt_of_mul (by have := v.kl1; omega) h2
    have h4 : w * 1 ≤ w * y := Int.mul_le_mul_of_nonneg_left (by omega) w0
    omega
/-- turned over -/
theorem la_vf {l0 l1 h0 h1 w : Int} (v : VA l0 l1 h0 h1) (e1 : w * l1 ≤ l0) (e2 : l0 < (w + 1) * l1) (w0 : 0 ≤ w) (c : ¬ (w + 1) * h1 ≤ h0) : VF h1 (h0 - w * h1) l1 (l0 - w * l1) where
  kl0 := v.kh1
  kl1 := by
    have g1 : w * l1 * h1 ≤ l0 * h1 := Int.mul_le_mul_of_nonneg_right e1 (by have := v.kh1; omega)
    have h2 : (w * h1) * l1 < h0 * l1 := by
      have := v.lt
      have : w * l1 * h1 = (w * h1) * l1 := by grind
      omega
    have := lt_of_mul (by have := v.kl1; omega) h2
    omega
  kh0 := v.kl1
  kh1 := by omega
  lt := by
    have := v.lt
    have : h1 * (l0 - w * l1) = l0 * h1 - w * l1 * h1 := by grind
    have : l1 * (h0 - w * h1) = h0 * l1 - w * l1 * h1 := by grind
    omega
  b0 := v.b3
  b1 := by have := nn_mul w0 (show 0 ≤ h1 by have := v.kh1; omega); have := v.b2; omega
  b2 := v.b1
  b3 := by have := nn_mul w0 (show 0 ≤ l1 by have := v.kl1; omega); have := v.b0; omega
theorem la_of {l0 l1 h0 h1 w t b : Int} (v : VA l0 l1 h0 h1) (e1 : w * l1 ≤ l0) (w0 : 0 ≤ w) (r : IsLF h1 (h0 - w * h1) l1 (l0 - w * l1) t b) (t0 : 0 < t) : IsLA l0 l1 h0 h1 (w * t + b) t where
  pos := t0
  lo := by have := r.hi; have : t * (l0 - w * l1) = l0 * t - w * t * l1 := by grind
           have : (w * t + b) * l1 = w * t * l1 + l1 * b := by grind
           omega
  hi := by have := r.lo; have : t * (h0 - w * h1) = h0 * t - w * t * h1 := by grind
           have : (w * t + b) * h1 = w * t * h1 + h1 * b := by grind
           omega
  min := fun x y hy a c => by
    have h1' : w * l1 * y ≤ l0 * y := Int.mul_le_mul_of_nonneg_right e1 (by omega)
    have h2 : (w * y) * l1 < x * l1 := by
      have : w * l1 * y = (w * y) * l1 := by grind
      omega
    have h3 := lt_of_mul (by have := v.kl1; omega) h2
    have h5 : h1 * (x - w * y) = x * h1 - w * y * h1 := by grind
    have h6 : y * (h0 - w * h1) = h0 * y - w * y * h1 := by grind
    have h7 : y * (l0 - w * l1) = l0 * y - w * y * l1 := by grind
    have h8 : l1 * (x - w * y) = x * l1 - w * y * l1 := by grind
    have q := r.min y (x - w * y) (by omega) (by omega) (by omega)
    refine ⟨q.2, ?_⟩
    have : w * t ≤ w * y := Int.mul_le_mul_of_nonneg_left q.2 w0
    omega
theorem lf_ret {l0 l1 h0 h1 w : Int} (v : VF l0 l1 h0 h1) (e1 : (w - 1) * l1 < l0) (e2 : l0 ≤ w * l1) (w0 : 1 ≤ w) (c : w * h1 < h0) : IsLF l0 l1 h0 h1 w 1 where
  pos := by decide
  lo := by omega
  hi := by omega
  min := fun x y hy a b => by
    refine ⟨by omega, ?_⟩
    have h1 : (w - 1) * l1 * y < l0 * y := Int.mul_lt_mul_of_pos_right e1 hy
    have h2 : ((w - 1) * y) * l1 < x * l1 := by
      have : (w - 1) * l1 * y = ((w - 1) * y) * l1 := by grind
      omega
    have h3 := lt_of_mul (by have := v.kl1; omega) h2
    have h4 : (w - 1) * 1 ≤ (w - 1) * y := Int.mul_le_mul_of_nonneg_left (by omega) (by omega)
    omega
theorem lf_va {l0 l1 h0 h1 w : Int} (v : VF l0 l1 h0 h1) (e1 : (w - 1) * l1 < l0) (e2 : l0 ≤ w * l1) (w0 : 1 ≤ w) (c : ¬ w * h1 < h0) : VA h1 (h0 - (w - 1) * h1) l1 (l0 - (w - 1) * l1) where
  kl0 := v.kh1
  kl1 := by
    have g1 : (w - 1) * l1 * h1 ≤ l0 * h1 := Int.mul_le_mul_of_nonneg_right (by omega) v.kh1
    have h2 : ((w - 1) * h1) * l1 < h0 * l1 := by
      have := v.lt
      have : (w - 1) * l1 * h1 = ((w - 1) * h1) * l1 := by grind
      omega
    have := lt_of_mul (by have := v.kl1; omega) h2
    omega
  kh0 := v.kl1
  kh1 := by omega
  lt := by
    have := v.lt
    have : h1 * (l0 - (w - 1) * l1) = l0 * h1 - (w - 1) * l1 * h1 := by grind
    have : l1 * (h0 - (w - 1) * h1) = h0 * l1 - (w - 1) * l1 * h1 := by grind
    omega
  b0 := v.b3
  b1 := by have := nn_mul (show 0 ≤ w - 1 by omega) v.kh1; have := v.b2; omega
  b2 := v.b1
  b3 := by have := nn_mul (show 0 ≤ w - 1 by omega) (show 0 ≤ l1 by have := v.kl1; omega); have := v.b0; omega
theorem lf_of {l0 l1 h0 h1 w t b : Int} (v : VF l0 l1 h0 h1) (e1 : (w - 1) * l1 < l0) (w0 : 1 ≤ w) (r : IsLA h1 (h0 - (w - 1) * h1) l1 (l0 - (w - 1) * l1) t b) (t0 : 0 < t) : IsLF l0 l1 h0 h1 ((w - 1) * t + b) t where
  pos := t0
  lo := by have := r.hi; have : t * (l0 - (w - 1) * l1) = l0 * t - (w - 1) * t * l1 := by grind
           have : ((w - 1) * t + b) * l1 = (w - 1) * t * l1 + l1 * b := by grind
           omega
  hi := by have := r.lo; have : t * (h0 - (w - 1) * h1) = h0 * t - (w - 1) * t * h1 := by grind
           have : ((w - 1) * t + b) * h1 = (w - 1) * t * h1 + h1 * b := by grind
           omega
  min := fun x y hy a c => by
    have h1' : (w - 1) * l1 * y < l0 * y := Int.mul_lt_mul_of_pos_right e1 hy
    have h2 : ((w - 1) * y) * l1 < x * l1 := by
      have : (w - 1) * l1 * y = ((w - 1) * y) * l1 := by grind
      omega
    have h3 := lt_of_mul (by have := v.kl1; omega) h2
    have h5 : h1 * (x - (w - 1) * y) = x * h1 - (w - 1) * y * h1 := by grind
    have h6 : y * (h0 - (w - 1) * h1) = h0 * y - (w - 1) * y * h1 := by grind
    have h7 : y * (l0 - (w - 1) * l1) = l0 * y - (w - 1) * y * l1 := by grind
    have h8 : l1 * (x - (w - 1) * y) = x * l1 - (w - 1) * y * l1 := by grind
    have q := r.min y (x - (w - 1) * y) (by omega) (by omega) (by omega)
    refine ⟨q.2, ?_⟩
    have : (w - 1) * t ≤ (w - 1) * y := Int.mul_le_mul_of_nonneg_left q.2 (by omega)
    omega
/-- tops are above nought -/
theorem IsLA.top {l0 l1 h0 h1 t b : Int} (v : VA l0 l1 h0 h1) (r : IsLA l0 l1 h0 h1 t b) : 0 < t ∧ t ≤ h0 ∧ b ≤ h1 := by
  have a := nn_mul v.kl0 (show 0 ≤ b by have := r.pos; omega)
  have : 0 * l1 < t * l1 := by have := r.lo; omega
  have t0 := lt_of_mul (by have := v.kl1; omega) this
  have q := r.min h0 h1 v.kh1 v.lt (Int.le_refl _)
  exact ⟨t0, q.2, q.1⟩
theorem IsLF.top {l0 l1 h0 h1 t b : Int} (v : VF l0 l1 h0 h1) (r : IsLF l0 l1 h0 h1 t b) : 0 < t ∧ t ≤ l0 ∧ b ≤ l1 := by
  have a := Int.mul_pos (show 0 < l0 by have := v.kl0; omega) r.pos
  have : 0 * l1 < t * l1 := by have := r.lo; omega
  have t0 := lt_of_mul (by have := v.kl1; omega) this
  have q := r.min l0 l1 v.kl1 (Int.le_refl _) v.lt
  exact ⟨t0, q.2, q.1⟩
theorem IsLA.uniq {l0 l1 h0 h1 t b t' b' : Int} (r : IsLA l0 l1 h0 h1 t b) (q : IsLA l0 l1 h0 h1 t' b') : t = t' ∧ b = b' := by
  have a := r.min t' b' q.pos q.lo q.hi
  have c := q.min t b r.pos r.lo r.hi
  omega
theorem IsLF.uniq {l0 l1 h0 h1 t b t' b' : Int} (r : IsLF l0 l1 h0 h1 t b) (q : IsLF l0 l1 h0 h1 t' b') : t = t' ∧ b = b' := by
  have a := r.min t' b' q.pos q.lo q.hi
  have c := q.min t b r.pos r.lo r.hi
  omega
theorem sc_lt {n a b : Int} (hn : 0 < n) : n * a < n * b ↔ a < b := Int.mul_lt_mul_left hn
theorem sc_le {n a b : Int} (hn : 0 < n) : n * a ≤ n * b ↔ a ≤ b := Int.mul_le_mul_left hn
theorem IsLA.scale {n l0 l1 h0 h1 t b : Int} (hn : 0 < n) (r : IsLA l0 l1 h0 h1 t b) : IsLA (n * l0) (n * l1) (n * h0) (n * h1) t b where
  pos := r.pos
  lo := by have := (sc_lt hn).mpr r.lo; grind
  hi := by have := (sc_le hn).mpr r.hi; grind
  min := fun x y hy a c => r.min x y hy ((sc_lt hn).mp (by grind)) ((sc_le hn).mp (by grind))
theorem IsLF.scale {n l0 l1 h0 h1 t b : Int} (hn : 0 < n) (r : IsLF l0 l1 h0 h1 t b) : IsLF (n * l0) (n * l1) (n * h0) (n * h1) t b where
  pos := r.pos
  lo := by have := (sc_le hn).mpr r.lo; grind
  hi := by have := (sc_lt hn).mpr r.hi; grind
  min := fun x y hy a c => r.min x y hy ((sc_le hn).mp (by grind)) ((sc_lt hn).mp (by grind))
/-- the place of turn 1 at which drums of one first are parted -/
def PartP (f lo hi p : Int) : Prop := ∃ t b u e : Int, IsLA f (f + hi) f (f + lo) t b ∧ IsLF f (f + hi) f (f + lo) u e ∧ p = min b (e - 1)
theorem PartP.uniq {f lo hi p q : Int} (a : PartP f lo hi p) (c : PartP f lo hi q) : p = q := by
  obtain ⟨t, b, u, e, a1, a2, rfl⟩ := a
  obtain ⟨t', b', u', e', c1, c2, rfl⟩ := c
  obtain ⟨_, rfl⟩ := a1.uniq c1
  obtain ⟨_, rfl⟩ := a2.uniq c2
  rfl
theorem PartP.scale {n f lo hi p : Int} (hn : 0 < n) (a : PartP f lo hi p) : PartP (n * f) (n * lo) (n * hi) p := by
  obtain ⟨t, b, u, e, a1, a2, rfl⟩ := a
  refine ⟨t, b, u, e, ?_, ?_, rfl⟩
  · have := a1.scale hn
    rw [Int.mul_add, Int.mul_add] at this; exact this
  · have := a2.scale hn
    rw [Int.mul_add, Int.mul_add] at this; exact this
theorem va_part {f lo hi : Int} (hf : 1 ≤ f) (h0 : 0 ≤ lo) (h : lo < hi) (f2 : f < 2 ^ 58) (h2 : hi < 2 ^ 58) : VA f (f + hi) f (f + lo) where
  kl0 := by omega
  kl1 := by omega
  kh0 := by omega
  kh1 := by omega
  lt := by have := Int.mul_lt_mul_of_pos_left (show f + lo < f + hi by omega) (show 0 < f by omega); omega
  b0 := by omega
  b1 := by omega
  b2 := by omega
  b3 := by omega
theorem vf_part {f lo hi : Int} (hf : 1 ≤ f) (h0 : 0 ≤ lo) (h : lo < hi) (f2 : f < 2 ^ 58) (h2 : hi < 2 ^ 58) : VF f (f + hi) f (f + lo) where
  kl0 := by omega
  kl1 := by omega
  kh0 := by omega
  kh1 := by omega
  lt := by have := Int.mul_lt_mul_of_pos_left (show f + lo < f + hi by omega) (show 0 < f by omega); omega
  b0 := by omega
  b1 := by omega
  b2 := by omega
  b3 := by omega
theorem PartP.bd {f lo hi p : Int} (hf : 1 ≤ f) (h0 : 0 ≤ lo) (h : lo < hi) (a : PartP f lo hi p) : 0 ≤ p ∧ p ≤ f + lo := by
  obtain ⟨t, b, u, e, a1, a2, rfl⟩ := a
  have lt := Int.mul_lt_mul_of_pos_left (show f + lo < f + hi by omega) (show 0 < f by omega)
  have q := a1.min f (f + lo) (by omega) lt (Int.le_refl _)
  have := a1.pos
  have := a2.pos
  omega
/-- the measure: two steps halve the bottoms -/
theorem halves {h1 h0 l1 l0 w w' n : Int} (v : VF h1 (h0 - w * h1) l1 (l0 - w * l1)) (c : ¬ (w + 1) * h1 ≤ h0) (e2 : h1 ≤ w' * (h0 - w * h1)) (cc : ¬ w' * (l0 - w * l1) < l1) (hn : l1 + h1 ≤ n) :
    2 * ((h1 - (w' - 1) * (h0 - w * h1)) + (l1 - (w' - 1) * (l0 - w * l1))) ≤ n := by
  have c' : h0 - w * h1 < h1 := by
    have : (w + 1) * h1 = w * h1 + h1 := by grind
    omega
  have l1p := v.kl1
  have h1p := v.kh1
  generalize h0 - w * h1 = r at *
  generalize l0 - w * l1 = s at *
  have w2 : 2 ≤ w' := by
    apply Classical.byContradiction
    intro q
    have : w' * r ≤ 1 * r := Int.mul_le_mul_of_nonneg_right (by omega) (by omega)
    omega
  have a1 : 1 * r ≤ (w' - 1) * r := Int.mul_le_mul_of_nonneg_right (by omega) (by omega)
  have a2 : 1 * s ≤ (w' - 1) * s := Int.mul_le_mul_of_nonneg_right (by omega) (by omega)
  have a3 : w' * r = (w' - 1) * r + r := by grind
  have a4 : w' * s = (w' - 1) * s + s := by grind
  omega
end Wm
namespace Wm
open PySem PySem.Spec PyProof.Rows L2
section
variable {X : Cx} {CX : CXT} {C f : Addr} {fd : FuncData} {ps : List Str} {n : Nat} {sp : Sp}
/-- == by an own __eq__, either answer -/
def rEqI (C : Addr) (sp : Sp) : R2 := fun x y H Q => ∃ a b dx dy fs gs, x = .ref a ∧ y = .ref b ∧ H a = some (.ins C dx fs) ∧ H b = some (.ins C dy gs) ∧ sp [.ref a, .ref b] H (fun v H' => ∃ k, v = .bl k ∧ Q (.bl k) H') E0
theorem op_eqI (F : FnOk X.prog X.w X.K X.mg X.base CX0 n f fd ps sp) (M : Meth X.K C "__eq__" f) (hb : Binds X.K fd ps []) (hr : Room n X.A) : OpR X (compareOp .Eq) (rEqI C sp) := by
  intro pins s σ H x y v u Q I rx ry hq
  obtain ⟨a, b, dx, dy, fs, gs, rfl, rfl, ha, hb', hs⟩ := hq
  cases rx
  cases ry
  show wpAny (model X.prog X.w) X.A (richCompare .Eq _ _) (EP X pins σ Q) X.xe s
  obtain ⟨mA, J, _⟩ := ins_get I.hok ha
  obtain ⟨mB, J', _⟩ := ins_get I.hok hb'
  obtain ⟨od, J, _⟩ := J.look
  obtain ⟨od', J', _⟩ := J'.look
  obtain ⟨m, hF⟩ := I.fr
  refine PySem.W.cmp_K (op := .Eq) (tb := .ref C) hr.units0 hF I.ok.mod.kin J J'.type (by simp [PySem.W.notFirst]) M.at_ M.fn ?_
  have hl := F.len _ _ _ _ hs
  have bd := hb s [.ref a, .ref b] I.kIn (by simpa using hl)
  rw [List.append_nil] at bd
  have r2 : Vals [V.ref a, V.ref b] [Value.ref a, Value.ref b] := .cons rfl (.cons rfl .nil)
  refine wpAny_call (codeAny_mono (F.run X.A X.stack s H ⟨[.ref a, .ref b], []⟩ [.ref a, .ref b] [.ref a, .ref b] _ E0 hr I.env0 bd r2 hs) fun r s' hq => ?_)
  cases r with
  | error e => exact hq.elim
  | ok fl =>
    cases fl with
    | ret w =>
      obtain ⟨z, H', I', rz, k, ez, ex⟩ := I.after hq
      subst ez
      cases rz
      exact ⟨.bl k, H', I', rfl, ex⟩
    | next => exact False.elim hq
    | brk => exact False.elim hq
    | cont => exact False.elim hq
end
section
variable {K : PySem.W.Frag} {σ : L2.St} {H : Hp} {Q : VK} {E : XK} {p q a : Addr} {f s g t l n : Int}
theorem x_eqI {sp : Sp} (d : Drm K H p f s) (d' : Drm K H q g t) (h : sp [.ref p, .ref q] H (fun v H' => ∃ k, v = .bl k ∧ Q (.bl k) H') E0) : rEqI (He.ga K "Drum") sp (.ref p) (.ref q) H Q := by
  obtain ⟨dx, e⟩ := d.ob
  obtain ⟨dy, e'⟩ := d'.ob
  exact ⟨p, q, dx, dy, _, _, rfl, rfl, e, e', h⟩
theorem x_isC (d : Drm K H p f s) (h : Q (.bl true) H) : (fun (xs : List V) (H : Hp) (Q : VK) => ∃ a dx fs, xs = [.ref a, .ref (He.ga K "Drum")] ∧ H a = some (.ins (He.ga K "Drum") dx fs) ∧ Q (.bl true) H) [.ref p, .ref (He.ga K "Drum")] H Q := by
  obtain ⟨dx, e⟩ := d.ob
  exact ⟨p, dx, _, rfl, e, h⟩
theorem x_rNeB {i j : Bool} (h : Q (.bl (!decide (i = j))) H) : rNe (.bl i) (.bl j) H Q := ⟨rfl, by
  have e : decide (V.bl i = V.bl j) = decide (i = j) := by cases i <;> cases j <;> decide
  rw [e]; exact h⟩
theorem x_rNeN {i : Int} (h : Q (.bl true) H) : rNe (.non) (.int i) H Q := ⟨rfl, by
  have e : decide (V.non = V.int i) = false := by simp
  rw [e]; exact h⟩
/-- two numbers sorted -/
theorem x_sort2 {x y : Int} (e : H a = some (.lst [.int x, .int y])) (h : ∀ r, H r = none → Q (.ref r) (upd H r (.lst [.int (min x y), .int (max x y)]))) : rSorted K [.ref a] H Q := by
  refine ⟨a, [x, y], rfl, sql e, Nat.le_of_ble_eq_true rfl, fun ns' r hp hs hr => ?_⟩
  have : ns' = [min x y, max x y] := by
    match ns', hp, hs with
    | [], hp, _ => exact absurd hp.length_eq (by simp)
    | [_], hp, _ => exact absurd hp.length_eq (by simp)
    | [u, v], hp, hs =>
      have h1 : u = x ∨ u = y := by simpa using hp.mem_iff.mp (show u ∈ [u, v] by simp)
      have h2 : x = u ∨ x = v := by simpa using hp.symm.mem_iff.mp (show x ∈ [x, y] by simp)
      have h3 : y = u ∨ y = v := by simpa using hp.symm.mem_iff.mp (show y ∈ [x, y] by simp)
      have h4 : v = x ∨ v = y := by simpa using hp.mem_iff.mp (show v ∈ [u, v] by simp)
      have h5 : u ≤ v := by simpa using hs
      have : u = min x y := by omega
      have : v = max x y := by omega
      subst_vars
      first | rfl | (congr 1 <;> omega)
    | _ :: _ :: _ :: _, hp, _ => exact absurd hp.length_eq (by simp)
  rw [this]
  exact h r hr
theorem x_unl {n : Nat} {t : TGs} {xs : List V} {R : L2.St → Hp → Prop} (e : H a = some (.lst xs)) (l : xs.length = n) (h : t xs σ H R) : gUnl K n t (.ref a) σ H R := ⟨a, xs, rfl, sql e, l, h⟩
end
/-! ### promises -/
def PartV (f s g t : Int) (v : V) : Prop := (f = g ∧ s = t ∧ v = .non) ∨ (f ≠ g ∧ v = .int (min f g)) ∨ (f = g ∧ s ≠ t ∧ ∃ p, PartP f (min s t) (max s t) p ∧ v = .int (f + p))
section
variable (K : PySem.W.Frag)
def sp__check_drum : Sp := fun vs H Q _ => ∃ (z : Str) (p : Addr) (f s : Int), vs = [.str z, .ref p] ∧ Drm K H p f s ∧ Q .non H
def sp_Drumu__equ_ : Sp := fun vs H Q _ => ∃ (p q : Addr) (f s g t : Int), vs = [.ref p, .ref q] ∧ Drm K H p f s ∧ Drm K H q g t ∧ Q (.bl (decide (f = g ∧ s = t))) H
def sp__turned : Sp := fun vs H Q _ => ∃ (p : Addr) (x y w : Int), vs = [.ref p, .int w] ∧ H p = some (.tup [.int x, .int y]) ∧ Bd 200 w ∧ Bd 200 y ∧ ∀ (q : Addr) (H' : Hp), Same H H' → H' q = some (.tup [.int y, .int (x - w * y)]) → Q (.ref q) H'
def spLA (n : Nat) : Sp := fun vs H Q _ => ∃ (p q : Addr) (l0 l1 h0 h1 : Int), vs = [.ref p, .ref q] ∧ H p = some (.tup [.int l0, .int l1]) ∧ H q = some (.tup [.int h0, .int h1]) ∧ VA l0 l1 h0 h1 ∧ l1 + h1 ≤ 2 ^ n ∧
  ∀ (t b : Int) (r : Addr) (H' : Hp), IsLA l0 l1 h0 h1 t b → Same H H' → H' r = some (.tup [.int t, .int b]) → Q (.ref r) H'
def spLF (n : Nat) : Sp := fun vs H Q _ => 1 ≤ n ∧ ∃ (p q : Addr) (l0 l1 h0 h1 : Int), vs = [.ref p, .ref q] ∧ H p = some (.tup [.int l0, .int l1]) ∧ H q = some (.tup [.int h0, .int h1]) ∧ VF l0 l1 h0 h1 ∧
  (∀ w : Int, (w - 1) * l1 < l0 → l0 ≤ w * l1 → ¬ w * h1 < h0 → 2 * ((l0 - (w - 1) * l1) + (h0 - (w - 1) * h1)) ≤ 2 ^ n) ∧
  ∀ (t b : Int) (r : Addr) (H' : Hp), IsLF l0 l1 h0 h1 t b → Same H H' → H' r = some (.tup [.int t, .int b]) → Q (.ref r) H'
abbrev sp__least_above : Sp := spLA 58
abbrev sp__least_from : Sp := spLF 58
def sp_parted : Sp := fun vs H Q _ => ∃ (p q : Addr) (f s g t : Int), vs = [.ref p, .ref q] ∧ Drm K H p f s ∧ Drm K H q g t ∧ ∀ (v : V) (H' : Hp), PartV f s g t v → Same H H' → Q v H'
def sp_alike : Sp := fun vs H Q _ => ∃ (p q : Addr) (f s g t n : Int), vs = [.ref p, .ref q, .int n] ∧ Drm K H p f s ∧ Drm K H q g t ∧ 1 ≤ n ∧ ∀ (v : V) (k : Bool) (H' : Hp), PartV f s g t v → (∀ c, v = .int c → k = decide (n ≤ c)) → (v = .non → k = true) → Same H H' → Q (.bl k) H'
end
section
variable {K : PySem.W.Frag} {σ : L2.St} {H : Hp} {Q : VK} {E : XK} {p q a : Addr} {f s g t l n w x y l0 l1 h0 h1 : Int} {z : Str} {m : Nat}
theorem y_cdrum (d : Drm K H p f s) (h : Q .non H) : sp__check_drum K [.str z, .ref p] H Q E := ⟨z, p, f, s, rfl, d, h⟩
theorem y_deq (d : Drm K H p f s) (d' : Drm K H q g t) (h : Q (.bl (decide (f = g ∧ s = t))) H) : sp_Drumu__equ_ K [.ref p, .ref q] H Q E := ⟨p, q, f, s, g, t, rfl, d, d', h⟩
theorem y_turned (e : H p = some (.tup [.int x, .int y])) (bw : Bd 200 w) (by' : Bd 200 y) (h : ∀ (q : Addr) (H' : Hp), Same H H' → H' q = some (.tup [.int y, .int (x - w * y)]) → Q (.ref q) H') : sp__turned [.ref p, .int w] H Q E := ⟨p, x, y, w, rfl, e, bw, by', h⟩
theorem y_la (e : H p = some (.tup [.int l0, .int l1])) (e' : H q = some (.tup [.int h0, .int h1])) (v : VA l0 l1 h0 h1) (b : l1 + h1 ≤ 2 ^ m)
    (h : ∀ (t b : Int) (r : Addr) (H' : Hp), IsLA l0 l1 h0 h1 t b → Same H H' → H' r = some (.tup [.int t, .int b]) → Q (.ref r) H') : spLA m [.ref p, .ref q] H Q E := ⟨p, q, l0, l1, h0, h1, rfl, e, e', v, b, h⟩
theorem y_lf (hm : 1 ≤ m) (e : H p = some (.tup [.int l0, .int l1])) (e' : H q = some (.tup [.int h0, .int h1])) (v : VF l0 l1 h0 h1) (b : ∀ w : Int, (w - 1) * l1 < l0 → l0 ≤ w * l1 → ¬ w * h1 < h0 → 2 * ((l0 - (w - 1) * l1) + (h0 - (w - 1) * h1)) ≤ 2 ^ m)
    (h : ∀ (t b : Int) (r : Addr) (H' : Hp), IsLF l0 l1 h0 h1 t b → Same H H' → H' r = some (.tup [.int t, .int b]) → Q (.ref r) H') : spLF m [.ref p, .ref q] H Q E := ⟨hm, p, q, l0, l1, h0, h1, rfl, e, e', v, b, h⟩
theorem y_parted (d : Drm K H p f s) (d' : Drm K H q g t) (h : ∀ (v : V) (H' : Hp), PartV f s g t v → Same H H' → Q v H') : sp_parted K [.ref p, .ref q] H Q E := ⟨p, q, f, s, g, t, rfl, d, d', h⟩
theorem y_partedU (d : Drm K H p f s) (d' : Drm K H q g t) (ne : f ≠ g) (h : ∀ (H' : Hp), Same H H' → Q (.int (min f g)) H') : sp_parted K [.ref p, .ref q] H Q E := y_parted d d' fun v H' pv sm => by
  rcases pv with ⟨e, _⟩ | ⟨_, rfl⟩ | ⟨e, _⟩
  · exact absurd e ne
  · exact h H' sm
  · exact absurd e ne
theorem y_partedS (d : Drm K H p f s) (d' : Drm K H q f t) (lt : s < t) (h : ∀ (c : Int) (H' : Hp), PartP f s t c → Same H H' → Q (.int (f + c)) H') : sp_parted K [.ref p, .ref q] H Q E := y_parted d d' fun v H' pv sm => by
  rcases pv with ⟨_, e, _⟩ | ⟨e, _⟩ | ⟨_, _, c, pc, rfl⟩
  · omega
  · exact absurd rfl e
  · rw [show min s t = s by omega, show max s t = t by omega] at pc
    exact h c H' pc sm
theorem y_alikeU (d : Drm K H p f s) (d' : Drm K H q g t) (ne : f ≠ g) (n1 : 1 ≤ n) (h : ∀ (H' : Hp), Same H H' → Q (.bl (decide (n ≤ min f g))) H') : sp_alike K [.ref p, .ref q, .int n] H Q E := ⟨p, q, f, s, g, t, n, rfl, d, d', n1, fun v k H' pv e1 e2 sm => by
  rcases pv with ⟨e, _⟩ | ⟨_, rfl⟩ | ⟨e, _⟩
  · exact absurd e ne
  · rw [e1 _ rfl]; exact h H' sm
  · exact absurd e ne⟩
end
end Wm

-- 80097791b2f25b9e92ad1b1775872eecec3643bff7e289a7d90d2644bc8b2e19
/-! Sums of floors; where drums are parted, by counting. -/
namespace Wm
/-! ### sums of floors -/
/-- the sum of (a i + c) / b for i below n -/
def fsum (b a c : Int) : Nat → Int
  | 0 => 0
  | n + 1 => fsum b a c n + (a * n + c) / b
theorem fsum_front (b a c : Int) : ∀ n : Nat, fsum b a c (n + 1) = c / b + fsum b a (c + a) n
  | 0 => by simp [fsum]
  | n + 1 => by
    have h := fsum_front b a c n
    show fsum b a c (n + 1) + (a * ((n + 1 : Nat) : Int) + c) / b = c / b + (fsum b a (c + a) n + (a * (n : Int) + (c + a)) / b)
    rw [h]
    have : a * ((n + 1 : Nat) : Int) + c = a * (n : Int) + (c + a) := by push_cast; grind
    rw [this]
    omega
/-- the same sum, from above -/
def vsum (b a c : Int) : Nat → Int
  | 0 => 0
  | m + 1 => vsum b a c m + (c - b * (m + 1)) / a
theorem fsum_rev {a : Int} (ha : 0 < a) (b c n : Int) : ∀ m : Nat, fsum a b (c + a * n - b * m) m = n * m + vsum b a c m
  | 0 => by simp [fsum, vsum]
  | m + 1 => by
    rw [fsum_front]
    have e : c + a * n - b * ((m + 1 : Nat) : Int) + b = c + a * n - b * m := by push_cast; grind
    rw [e, fsum_rev ha b c n m]
    have e2 : c + a * n - b * ((m + 1 : Nat) : Int) = (c - b * (m + 1)) + a * n := by push_cast; grind
    rw [e2, Int.add_mul_ediv_left _ _ (by omega)]
    show (c - b * (m + 1)) / a + n + (n * m + vsum b a c m) = n * ((m + 1 : Nat) : Int) + (vsum b a c m + (c - b * (m + 1)) / a)
    push_cast
    grind
theorem nmul {a b : Int} (ha : 0 ≤ a) (hb : 0 ≤ b) : 0 ≤ a * b := Int.mul_nonneg ha hb
theorem ediv_bd (x : Int) {b : Int} (hb : 0 < b) : b * (x / b) ≤ x ∧ x < b * (x / b) + b := by
  have h1 := Int.mul_ediv_add_emod x b
  have h2 := Int.emod_nonneg x (show b ≠ 0 by omega)
  have h3 := Int.emod_lt_of_pos x hb
  omega
theorem ediv_is {x b q : Int} (hb : 0 < b) (h1 : b * q ≤ x) (h2 : x < b * q + b) : x / b = q := by
  obtain ⟨g1, g2⟩ := ediv_bd x hb
  have k1 : b * (x / b) < b * (q + 1) := by rw [Int.mul_add]; omega
  have k2 : b * q < b * (x / b + 1) := by rw [Int.mul_add]; omega
  have := Int.lt_of_mul_lt_mul_left k1 (by omega)
  have := Int.lt_of_mul_lt_mul_left k2 (by omega)
  omega
theorem fsum_v {a b c : Int} (ha : 0 < a) (hab : a < b) (c0 : 0 ≤ c) (cb : c < b) : ∀ n : Nat, fsum b a c n = n * ((a * n + c) / b) + vsum b a c ((a * n + c) / b).toNat
  | 0 => by
    have e : (a * ((0 : Nat) : Int) + c) / b = 0 := by
      have : a * ((0 : Nat) : Int) + c = c := by simp
      rw [this]; exact Int.ediv_eq_zero_of_lt c0 cb
    rw [e]
    simp [fsum, vsum]
  | n + 1 => by
    have h := fsum_v ha hab c0 cb n
    show fsum b a c n + (a * n + c) / b = _
    rw [h]
    have an : 0 ≤ a * (n : Int) := nmul (by omega) (by omega)
    have e1 : a * ((n + 1 : Nat) : Int) = a * n + a := by push_cast; grind
    rw [e1]
    have m0 : 0 ≤ (a * n + c) / b := Int.ediv_nonneg (by omega) (by omega)
    obtain ⟨g1, g2⟩ := ediv_bd (a * n + c) (show 0 < b by omega)
    obtain ⟨k1, k2⟩ := ediv_bd (a * n + a + c) (show 0 < b by omega)
    generalize hm : (a * n + c) / b = m at *
    by_cases e : (a * n + a + c) / b = m
    · rw [e]
      push_cast
      grind
    · have e2 : (a * n + a + c) / b = m + 1 := by
        refine ediv_is (by omega) ?_ ?_
        · rw [Int.mul_add]
          apply Classical.byContradiction
          intro q
          exact e (ediv_is (by omega) (by omega) (by omega))
        · rw [Int.mul_add]; omega
      rw [e2]
      rw [e2] at k1 k2
      have t : (m + 1).toNat = m.toNat + 1 := by omega
      rw [t]
      show n * m + vsum b a c m.toNat + m = ((n + 1 : Nat) : Int) * (m + 1) + (vsum b a c m.toNat + (c - b * ((m.toNat : Nat) + 1)) / a)
      have tm : ((m.toNat : Nat) : Int) = m := by omega
      rw [tm]
      have q : (c - b * (m + 1)) / a = -(n : Int) - 1 := by
        refine ediv_is ha ?_ ?_
        · have : a * (-(n : Int) - 1) = -(a * n) - a := by grind
          omega
        · have : a * (-(n : Int) - 1) = -(a * n) - a := by grind
          have : b * (m + 1) = b * m + b := by grind
          omega
      rw [q]
      push_cast
      grind
/-- the two sums of one turn of Euclid's -/
theorem fsum_swap {a b c : Int} (ha : 0 ≤ a) (hab : a < b) (c0 : 0 ≤ c) (cb : c < b) (n : Nat) : fsum b a c n = fsum a b ((a * n + c) % b) ((a * n + c) / b).toNat ∧ 0 ≤ (a * n + c) / b ∧ (a * n + c) / b ≤ n ∧ (a = 0 → (a * n + c) / b = 0) := by
  have an : 0 ≤ a * (n : Int) := nmul ha (by omega)
  have m0 : 0 ≤ (a * n + c) / b := Int.ediv_nonneg (by omega) (by omega)
  have m1 : (a * n + c) / b ≤ n := by
    have : (a * n + c) / b < n + 1 := by
      apply Int.ediv_lt_of_lt_mul (by omega)
      have h1 : a * (n : Int) ≤ (b - 1) * n := Int.mul_le_mul_of_nonneg_right (by omega) (by omega)
      have h2 : (b - 1) * (n : Int) = b * n - n := by grind
      have h3 : ((n : Int) + 1) * b = b * n + b := by grind
      omega
    omega
  refine ⟨?_, m0, m1, fun e => ?_⟩
  · by_cases e : a = 0
    · subst e
      have : ∀ k : Nat, fsum b 0 c k = 0 := by
        intro k
        induction k with
        | zero => rfl
        | succ k ih =>
          show fsum b 0 c k + (0 * (k : Int) + c) / b = 0
          rw [ih]
          have : (0 * (k : Int) + c) / b = 0 := by
            have : 0 * (k : Int) + c = c := by simp
            rw [this]; exact Int.ediv_eq_zero_of_lt c0 cb
          omega
      rw [this]
      have : (0 * (n : Int) + c) / b = 0 := by
        have : 0 * (n : Int) + c = c := by simp
        rw [this]; exact Int.ediv_eq_zero_of_lt c0 cb
      rw [this]; rfl
    · have h := fsum_v (show 0 < a by omega) hab c0 cb n
      have r := fsum_rev (show 0 < a by omega) b c n ((a * n + c) / b).toNat
      have tm : ((((a * n + c) / b).toNat : Nat) : Int) = (a * n + c) / b := by omega
      rw [tm] at r
      have e3 : c + a * n - b * ((a * n + c) / b) = (a * n + c) % b := by
        have := Int.mul_ediv_add_emod (a * n + c) b
        omega
      rw [e3] at r
      rw [h, r]
  · subst e
    have : 0 * (n : Int) + c = c := by simp
    rw [this]; exact Int.ediv_eq_zero_of_lt c0 cb
theorem tri_step (n : Int) : (n + 1) * (n + 1 - 1) / 2 = n * (n - 1) / 2 + n := by
  have : (n + 1) * (n + 1 - 1) = n * (n - 1) + n * 2 := by grind
  rw [this, Int.add_mul_ediv_right _ _ (by decide)]
theorem fsum_rest {b : Int} (hb : 0 < b) (a c : Int) : ∀ n : Nat, fsum b a c n = (n : Int) * (n - 1) / 2 * (a / b) + n * (c / b) + fsum b (a % b) (c % b) n
  | 0 => by simp [fsum]
  | n + 1 => by
    have h := fsum_rest hb a c n
    show fsum b a c n + (a * n + c) / b = ((n + 1 : Nat) : Int) * (((n + 1 : Nat) : Int) - 1) / 2 * (a / b) + ((n + 1 : Nat) : Int) * (c / b) + (fsum b (a % b) (c % b) n + (a % b * n + c % b) / b)
    rw [h]
    have t := tri_step (n : Int)
    have e0 : ((n + 1 : Nat) : Int) = (n : Int) + 1 := by push_cast; rfl
    rw [e0, t]
    have e1 : a * n + c = (a % b * n + c % b) + b * (a / b * n + c / b) := by
      have h1 := Int.mul_ediv_add_emod a b
      have h2 := Int.mul_ediv_add_emod c b
      have h3 : a * (n : Int) = (b * (a / b) + a % b) * n := by rw [h1]
      rw [h3]
      generalize a / b = x at *
      generalize a % b = y at *
      generalize c / b = z at *
      generalize c % b = w at *
      subst h2
      grind
    rw [e1, Int.add_mul_ediv_left _ _ (by omega)]
    grind
/-- sums of what is no less, term by term -/
theorem fsum_le {b b' a c a' c' : Int} : ∀ {n : Nat}, (∀ i : Nat, i < n → (a * i + c) / b ≤ (a' * i + c') / b') → fsum b a c n ≤ fsum b' a' c' n
  | 0, _ => Int.le_refl _
  | n + 1, h => by
    have := fsum_le (n := n) fun i hi => h i (by omega)
    have := h n (by omega)
    show fsum b a c n + _ ≤ fsum b' a' c' n + _
    omega
theorem fsum_lt {b b' a c a' c' : Int} : ∀ {n : Nat}, (∀ i : Nat, i < n → (a * i + c) / b ≤ (a' * i + c') / b') → (fsum b a c n < fsum b' a' c' n ↔ ∃ i : Nat, i < n ∧ (a * i + c) / b < (a' * i + c') / b')
  | 0, _ => by simp [fsum]
  | n + 1, h => by
    have ih := fsum_lt (n := n) fun i hi => h i (by omega)
    have le := fsum_le (n := n) fun i hi => h i (by omega)
    have hn := h n (by omega)
    have e : fsum b a c (n + 1) < fsum b' a' c' (n + 1) ↔ fsum b a c n + (a * n + c) / b < fsum b' a' c' n + (a' * n + c') / b' := Iff.rfl
    rw [e]
    constructor
    · intro q
      by_cases z : (a * n + c) / b < (a' * n + c') / b'
      · exact ⟨n, by omega, z⟩
      · obtain ⟨i, hi, hh⟩ := ih.mp (by omega)
        exact ⟨i, by omega, hh⟩
    · rintro ⟨i, hi, hh⟩
      by_cases z : i = n
      · subst z; omega
      · have := ih.mpr ⟨i, by omega, hh⟩
        omega
end Wm
namespace Wm
open PySem PySem.Spec PyProof.Rows L2
/-- some place below m lies otherwise, by its beginning or by its end -/
def bgP (f z w : Int) (i : Int) : Prop := (f * i + 0) / w < (f * i + 0) / z
def enP (f z w : Int) (i : Int) : Prop := (f * i + (f + w - 1)) / w < (f * i + (f + z - 1)) / z
def Gp (f z w m : Int) : Prop := ∃ i : Nat, (i : Int) < m ∧ (bgP f z w i ∨ enP f z w i)
theorem le_div {x b q : Int} (hb : 0 < b) : q ≤ x / b ↔ q * b ≤ x := Int.le_ediv_iff_mul_le hb
theorem div_lt {x b q : Int} (hb : 0 < b) : x / b < q ↔ x < q * b := Int.ediv_lt_iff_lt_mul hb
theorem bg_iff {f lo hi p : Int} (hf : 1 ≤ f) (h0 : 0 ≤ lo) (h : lo < hi) {t b i : Int} (a : IsLA f (f + hi) f (f + lo) t b) (i0 : 0 ≤ i) : (bgP f (f + lo) (f + hi) i → b ≤ i) ∧ bgP f (f + lo) (f + hi) b := by
  unfold bgP
  refine ⟨fun q => ?_, ?_⟩
  · rw [Int.add_zero] at q
    have i1 : 0 < i := by
      apply Classical.byContradiction
      intro z
      have : i = 0 := by omega
      subst this
      simp at q
    have q1 := (div_lt (by omega)).mp q
    have q2 := (le_div (show 0 < f + lo by omega)).mp (Int.le_refl (f * i / (f + lo)))
    exact (a.min _ i i1 q1 q2).1
  · rw [Int.add_zero]
    have q1 := (div_lt (x := f * b) (show 0 < f + hi by omega)).mpr a.lo
    have q2 := (le_div (x := f * b) (show 0 < f + lo by omega)).mpr a.hi
    omega
theorem en_iff {f lo hi p : Int} (hf : 1 ≤ f) (h0 : 0 ≤ lo) (h : lo < hi) {u e i : Int} (a : IsLF f (f + hi) f (f + lo) u e) (i0 : 0 ≤ i) : (enP f (f + lo) (f + hi) i → e ≤ i + 1) ∧ enP f (f + lo) (f + hi) (e - 1) := by
  have ceil : ∀ {m w x : Int}, 0 < w → ((m + (w - 1)) / w ≤ x ↔ m ≤ x * w) := fun {m w x} hw => by
    have := div_lt (x := m + (w - 1)) (q := x + 1) hw
    have e : (x + 1) * w = x * w + w := by grind
    omega
  unfold enP
  refine ⟨fun q => ?_, ?_⟩
  · have e1 : f * i + (f + (f + hi) - 1) = f * (i + 1) + ((f + hi) - 1) := by grind
    have e2 : f * i + (f + (f + lo) - 1) = f * (i + 1) + ((f + lo) - 1) := by grind
    rw [e1, e2] at q
    have q1 := (ceil (m := f * (i + 1)) (show 0 < f + hi by omega)).mp (Int.le_refl ((f * (i + 1) + ((f + hi) - 1)) / (f + hi)))
    have q2 : ¬ f * (i + 1) ≤ (f * (i + 1) + ((f + hi) - 1)) / (f + hi) * (f + lo) := fun z => by
      have := (ceil (show 0 < f + lo by omega)).mpr z
      omega
    exact (a.min _ (i + 1) (by omega) q1 (by omega)).1
  · have e1 : f * (e - 1) + (f + (f + hi) - 1) = f * e + ((f + hi) - 1) := by grind
    have e2 : f * (e - 1) + (f + (f + lo) - 1) = f * e + ((f + lo) - 1) := by grind
    rw [e1, e2]
    have q1 := (ceil (m := f * e) (x := u) (show 0 < f + hi by omega)).mpr a.lo
    have q2 : ¬ (f * e + ((f + lo) - 1)) / (f + lo) ≤ u := fun z => by
      have := (ceil (show 0 < f + lo by omega)).mp z
      have := a.hi
      omega
    omega
theorem gp_iff {f lo hi p m : Int} (hf : 1 ≤ f) (h0 : 0 ≤ lo) (h : lo < hi) (a : PartP f lo hi p) : Gp f (f + lo) (f + hi) m ↔ p < m := by
  obtain ⟨t, b, u, e, a1, a2, rfl⟩ := a
  have bp := a1.pos
  have ep := a2.pos
  constructor
  · rintro ⟨i, hi', q | q⟩
    · have := (bg_iff (p := 0) hf h0 h a1 (show (0 : Int) ≤ i by omega)).1 q
      omega
    · have := (en_iff (p := 0) hf h0 h a2 (show (0 : Int) ≤ i by omega)).1 q
      omega
  · intro q
    by_cases z : b ≤ e - 1
    · refine ⟨b.toNat, by omega, .inl ?_⟩
      rw [show ((b.toNat : Nat) : Int) = b by omega]
      exact (bg_iff (p := 0) hf h0 h a1 (show (0 : Int) ≤ b by omega)).2
    · refine ⟨(e - 1).toNat, by omega, .inr ?_⟩
      rw [show (((e - 1).toNat : Nat) : Int) = e - 1 by omega]
      exact (en_iff (p := 0) hf h0 h a2 (show (0 : Int) ≤ e - 1 by omega)).2
/-- at the place itself, and ahead of it -/
theorem gp_at {f lo hi p i : Int} (hf : 1 ≤ f) (h0 : 0 ≤ lo) (h : lo < hi) (a : PartP f lo hi p) (i0 : 0 ≤ i) : (i < p → ¬ bgP f (f + lo) (f + hi) i ∧ ¬ enP f (f + lo) (f + hi) i) ∧ (i = p → bgP f (f + lo) (f + hi) i ∨ enP f (f + lo) (f + hi) i) := by
  have n := fun m => gp_iff (m := m) hf h0 h a
  have ti : ((i.toNat : Nat) : Int) = i := by omega
  refine ⟨fun q => ⟨fun z => ?_, fun z => ?_⟩, fun q => ?_⟩
  · have := (n (i + 1)).mp ⟨i.toNat, by omega, .inl (by rw [ti]; exact z)⟩
    omega
  · have := (n (i + 1)).mp ⟨i.toNat, by omega, .inr (by rw [ti]; exact z)⟩
    omega
  · obtain ⟨j, hj, hh⟩ := (n (p + 1)).mpr (by omega)
    have : ¬ (j : Int) < p := fun z => by
      have := (n p).mp ⟨j, z, hh⟩
      omega
    have e : (j : Int) = i := by omega
    rw [e] at hh
    exact hh
theorem fl_mono {f z w : Int} (hf : 1 ≤ f) (hz : 0 < z) (h : z ≤ w) (i : Nat) : (f * i + 0) / w ≤ (f * i + 0) / z ∧ (f * i + (f + w - 1)) / w ≤ (f * i + (f + z - 1)) / z := by
  have fi : 0 ≤ f * (i : Int) := nmul (by omega) (by omega)
  refine ⟨?_, ?_⟩
  · rw [le_div hz]
    have q := (le_div (show 0 < w by omega)).mp (Int.le_refl ((f * (i : Int) + 0) / w))
    have q0 : 0 ≤ (f * (i : Int) + 0) / w := Int.ediv_nonneg (by omega) (by omega)
    have := Int.mul_le_mul_of_nonneg_left h q0
    omega
  · -- ceilings
    have q0 : 0 ≤ (f * (i : Int) + (f + z - 1)) / z := Int.ediv_nonneg (by omega) (by omega)
    have q := (div_lt (x := f * (i : Int) + (f + z - 1)) (q := (f * (i : Int) + (f + z - 1)) / z + 1) hz).mp (by omega)
    have e : ((f * (i : Int) + (f + z - 1)) / z + 1) * z = (f * (i : Int) + (f + z - 1)) / z * z + z := by grind
    have := Int.mul_le_mul_of_nonneg_left h q0
    have q2 := (div_lt (x := f * (i : Int) + (f + w - 1)) (q := (f * (i : Int) + (f + z - 1)) / z + 1) (show 0 < w by omega)).mpr (by
      have e2 : ((f * (i : Int) + (f + z - 1)) / z + 1) * w = (f * (i : Int) + (f + z - 1)) / z * w + w := by grind
      omega)
    omega
theorem gp_sums {f z w : Int} (hf : 1 ≤ f) (hz : 0 < z) (h : z ≤ w) (m : Nat) : Gp f z w m ↔ (fsum w f 0 m < fsum z f 0 m ∨ fsum w f (f + w - 1) m < fsum z f (f + z - 1) m) := by
  have a := fsum_lt (n := m) fun i _ => (fl_mono hf hz h i).1
  have c := fsum_lt (n := m) fun i _ => (fl_mono hf hz h i).2
  rw [a, c]
  unfold Gp bgP enP
  constructor
  · rintro ⟨i, hi, q | q⟩
    · exact .inl ⟨i, by omega, q⟩
    · exact .inr ⟨i, by omega, q⟩
  · rintro (⟨i, hi, q⟩ | ⟨i, hi, q⟩)
    · exact ⟨i, by omega, .inl q⟩
    · exact ⟨i, by omega, .inr q⟩
/-! ### promises -/
def sp__law_floors : Sp := fun vs H Q _ => ∃ n b a c : Int, vs = [.int n, .int b, .int a, .int c] ∧ 0 ≤ n ∧ n < 2 ^ 60 ∧ 1 ≤ b ∧ b < 2 ^ 60 ∧ 0 ≤ a ∧ a < 2 ^ 60 ∧ 0 ≤ c ∧ c < 2 ^ 60 ∧ Q (.int (fsum b a c n.toNat)) H
def sp__law_some : Sp := fun vs H Q _ => ∃ f s t n : Int, vs = [.int f, .int s, .int t, .int n] ∧ 1 ≤ f ∧ f < 2 ^ 57 ∧ 0 ≤ s ∧ s < t ∧ t < 2 ^ 57 ∧ 0 ≤ n ∧ n < 2 ^ 60 ∧ ∀ k : Bool, (k = true ↔ Gp f (f + s) (f + t) n) → Q (.bl k) H
section
variable {K : PySem.W.Frag} {H : Hp} {Q : VK} {E : XK} {f s t n a b c : Int}
theorem y_floors (n0 : 0 ≤ n) (n1 : n < 2 ^ 60) (b0 : 1 ≤ b) (b1 : b < 2 ^ 60) (a0 : 0 ≤ a) (a1 : a < 2 ^ 60) (c0 : 0 ≤ c) (c1 : c < 2 ^ 60) (k : Q (.int (fsum b a c n.toNat)) H) : sp__law_floors [.int n, .int b, .int a, .int c] H Q E := ⟨n, b, a, c, rfl, n0, n1, b0, b1, a0, a1, c0, c1, k⟩
theorem y_some (f1 : 1 ≤ f) (f2 : f < 2 ^ 57) (s0 : 0 ≤ s) (s1 : s < t) (t1 : t < 2 ^ 57) (n0 : 0 ≤ n) (n1 : n < 2 ^ 60) (k : ∀ k : Bool, (k = true ↔ Gp f (f + s) (f + t) n) → Q (.bl k) H) : sp__law_some [.int f, .int s, .int t, .int n] H Q E := ⟨f, s, t, n, rfl, f1, f2, s0, s1, t1, n0, n1, k⟩
end
section
variable {K : PySem.W.Frag} {σ : L2.St} {H : Hp} {Q : VK} {E : XK} {D : Ends} {p q : Addr} {f s t n : Int}
theorem x_iteK {A B : Prop} {k : Bool} (h1 : k = true → A) (h2 : k = false → B) : if k = true then A else B := by
  cases k
  · exact h2 rfl
  · exact h1 rfl
theorem x_notBl {a b : Bool} (h : Q (.bl (!decide (a = b))) H) : rNotB (.bl a) (.bl b) H Q := ⟨a, b, rfl, rfl, h⟩
theorem y_partedR (d : Drm K H p f t) (d' : Drm K H q f s) (lt : s < t) (h : ∀ (c : Int) (H' : Hp), PartP f s t c → Same H H' → Q (.int (f + c)) H') : sp_parted K [.ref p, .ref q] H Q E := y_parted d d' fun v H' pv sm => by
  rcases pv with ⟨_, e, _⟩ | ⟨e, _⟩ | ⟨_, _, c, pc, rfl⟩
  · omega
  · exact absurd rfl e
  · rw [show min t s = s by omega, show max t s = t by omega] at pc
    exact h c H' pc sm
theorem y_alikeS (d : Drm K H p f s) (d' : Drm K H q f t) (lt : s < t) (n1 : 1 ≤ n) (h : ∀ (c : Int) (H' : Hp), PartP f s t c → Same H H' → Q (.bl (decide (n ≤ f + c))) H') : sp_alike K [.ref p, .ref q, .int n] H Q E := ⟨p, q, f, s, f, t, n, rfl, d, d', n1, fun v k H' pv e1 e2 sm => by
  rcases pv with ⟨_, e, _⟩ | ⟨e, _⟩ | ⟨_, _, c, pc, rfl⟩
  · omega
  · exact absurd rfl e
  · rw [show min s t = s by omega, show max s t = t by omega] at pc
    rw [e1 _ rfl]; exact h c H' pc sm⟩
end
/-! ### what lies at the place, ahead of it -/
theorem bg_one' (f s : Int) : Bg f s 1 = f := by unfold Bg; simp
theorem bg_two' (f s : Int) : Bg f s 2 = 2 * f + s := by unfold Bg; simp
theorem bg_nul' (f s : Int) : Bg f s 0 = 0 := by unfold Bg; simp
theorem tOf_nul {f s c : Int} (hf : 1 ≤ f) (hs : 0 ≤ s) (c0 : 0 ≤ c) (c1 : c < f) : tOf f s c = 0 :=
  tOf_eq hf hs (by decide) (by rw [bg_nul']; omega) (by rw [bg_nul']; omega) c0
theorem tOf_fst {f s c : Int} (hf : 1 ≤ f) (hs : 0 ≤ s) (c0 : 0 ≤ c) (c1 : c < f + s) : tOf f s (f + c) = 1 :=
  tOf_eq hf hs (by decide) (by rw [bg_one']; omega) (by rw [bg_one']; omega) (by omega)
theorem tOf_snd {f s : Int} (hf : 1 ≤ f) (hs : 0 ≤ s) : tOf f s (f + (f + s)) = 2 :=
  tOf_eq hf hs (by decide) (by rw [bg_two']; omega) (by rw [bg_two']; omega) (by omega)
theorem bn_fst {f s c : Int} (hf : 1 ≤ f) (hs : 0 ≤ s) (c0 : 0 ≤ c) (c1 : c < f + s) : bnL f s (f + c) = (f * c + 0) / (f + s) ∧ bnH f s (f + c) = (f * c + (f + (f + s) - 1)) / (f + s) - 1 := by
  have e : ((c + 1) * f - 1) = (f * c + (f + (f + s) - 1)) + (f + s) * (-1) := by grind
  unfold bnL bnH metL metH plc siz
  rw [tOf_fst hf hs c0 c1, bg_one', show (1 : Int) - 1 = 0 from rfl, bg_nul', show f + c - f = c by omega]
  refine ⟨?_, ?_⟩
  · have : c * (f + 0 * s) = f * c + 0 := by grind
    rw [this]; simp
  · have : (c + 1) * (f + 0 * s) - 1 = (f * c + (f + (f + s) - 1)) + (f + s) * (-1) := by grind
    rw [this, show f + 1 * s = f + s by omega, Int.add_mul_ediv_left _ _ (by omega)]
    omega
theorem bn_snd {f s : Int} (hf : 1 ≤ f) (hs : 0 ≤ s) : bnL f s (f + (f + s)) = f := by
  unfold bnL metL plc siz
  rw [tOf_snd hf hs, bg_two', show (2 : Int) - 1 = 1 from rfl, bg_one', show f + (f + s) - (2 * f + s) = 0 by omega]
  simp
/-- at the parted cell drums lie otherwise, ahead of it alike -/
theorem part_bn {f s t c : Int} (hf : 1 ≤ f) (hs : 0 ≤ s) (h : s < t) (a : PartP f s t c) :
    (¬ (bnL f s (f + c) = bnL f t (f + c) ∧ bnH f s (f + c) = bnH f t (f + c))) ∧ ¬ tOf f s (f + c) = 0 ∧ ¬ tOf f t (f + c) = 0 ∧
    (0 < c → ¬ tOf f s (f + c - 1) = 0 ∧ ¬ tOf f t (f + c - 1) = 0 ∧ bnL f s (f + c - 1) = bnL f t (f + c - 1) ∧ bnH f s (f + c - 1) = bnH f t (f + c - 1)) := by
  obtain ⟨c0, c1⟩ := a.bd hf hs h
  have T2 := tOf_fst hf (show 0 ≤ t by omega) c0 (show c < f + t by omega)
  have B2 := bn_fst hf (show 0 ≤ t by omega) c0 (show c < f + t by omega)
  refine ⟨?_, ?_, by omega, fun cp => ?_⟩
  · by_cases e : c < f + s
    · have B1 := bn_fst hf hs c0 e
      rw [B1.1, B1.2, B2.1, B2.2]
      have g := (gp_at hf hs h a c0).2 rfl
      unfold bgP enP at g
      omega
    · have e' : c = f + s := by omega
      rw [B2.1]
      subst e'
      rw [bn_snd hf hs]
      rintro ⟨q, _⟩
      have : (f * (f + s) + 0) / (f + t) < f := by
        apply Int.ediv_lt_of_lt_mul (by omega)
        have := Int.mul_lt_mul_of_pos_left (show f + s < f + t by omega) (show 0 < f by omega)
        omega
      omega
  · by_cases e : c < f + s
    · have := tOf_fst hf hs c0 e
      omega
    · have e' : c = f + s := by omega
      subst e'
      have := tOf_snd hf hs
      omega
  · have e : f + c - 1 = f + (c - 1) := by omega
    rw [e]
    have B1 := bn_fst hf hs (show 0 ≤ c - 1 by omega) (show c - 1 < f + s by omega)
    have B3 := bn_fst hf (show 0 ≤ t by omega) (show 0 ≤ c - 1 by omega) (show c - 1 < f + t by omega)
    have T1 := tOf_fst hf hs (show 0 ≤ c - 1 by omega) (show c - 1 < f + s by omega)
    have T3 := tOf_fst hf (show 0 ≤ t by omega) (show 0 ≤ c - 1 by omega) (show c - 1 < f + t by omega)
    obtain ⟨g1, g2⟩ := (gp_at hf hs h a (show 0 ≤ c - 1 by omega)).1 (by omega)
    have m := fl_mono hf (show 0 < f + s by omega) (show f + s ≤ f + t by omega) (c - 1).toNat
    rw [show (((c - 1).toNat : Nat) : Int) = c - 1 by omega] at m
    unfold bgP at g1
    unfold enP at g2
    rw [B1.1, B1.2, B3.1, B3.2]
    omega
end Wm

-- fff6b75cefdb8b806cc3f4f17665ebd761f3763c1660adda1ac4e495acec6ebc
/-! f(k = v, ..): all by keywords, in the reverse of the def's order. -/
namespace Wm
open PySem PySem.Spec PyProof.Rows L2
def tCallN0 (m : Nat) (sp : Sp) (gV : List V → List V → List V) (E : XK) (tk : TA) : TE := fun σ H Q => tk σ H fun zs H2 => zs.length = m ∧ sp (gV [] zs) H2 Q E
section
variable {X : Cx} {CX : CXT} {k : Nat} {f : Addr} {fd : FuncData} {ps ks : List Str} {sp : Sp} {E : XK} {x : Str} {p pos : Pos} {kws : List Keyword} {tk : TA} {g : List Value → List Value → List Value} {gV : List V → List V → List V}
theorem pe_callN0 (F : FnOk X.prog X.w X.K X.mg X.base CX k f fd ps sp) (hr : Room k X.A) (hg : Gl X x) (hm : X.mg x = some (.ref f)) (hk : PySem.W.keepIn X.K (.ref f) = true) (hb : KBn X.K fd ps 0 ks g gV) (hx : Passes CX X E)
    (hkw : PK X kws tk) (hall : (backToKw pos (keywordEach kws X.env)).all (·.1.isSome) = true := by rfl) (hks : (backToKw pos (keywordEach kws X.env)).filterMap (·.1) = ks := by rfl)
    (hdb : (x == ("__debug__" : Str)) = false := by decide)
    (hpl : ((backTo pos (starEach [] X.env)).any (·.1) || (backToKw pos (keywordEach kws X.env)).any (·.1.isNone)) = false := by rfl) :
    PE X (.Call (.Name x p) [] kws pos) (tCallN0 ks.length sp gV E tk) := by
  refine ⟨fun pins s σ H Q I h => ?_⟩
  refine wpAny_Call_Name_kw (ld_glob I hg hm ?_ hdb)
  refine PySem.W.callWith_KW0 (first := []) (h₀ := X.base) I.ok.mod.kin hk hall (thn (hkw.run pos pins s σ H _ I h) fun ws s2 ⟨zs, H2, I2, rz, l2, q2⟩ => ⟨I2.kIn, ?_⟩) hpl
  rw [hks]
  exact run_fnN (us := []) (vs := []) F hr hb hx I2 .nil rz rfl l2 q2
end
theorem vals_rev : ∀ {zs : List V} {ws : List Value}, Vals zs ws → Vals zs.reverse ws.reverse
  | _, _, .nil => .nil
  | z :: zs, w :: ws, .cons r t => by
    rw [List.reverse_cons, List.reverse_cons]
    exact (vals_rev t).append (.cons r .nil)
theorem rel_rev {vs : List V} {us : List Value} {zs : List V} {ws : List Value} (h : Vals vs us) (k : Vals zs ws) : Vals (vs ++ zs.reverse) (us ++ ws.reverse) := h.append (vals_rev k)
section
variable {σ : L2.St} {H : Hp} {Q : VK} {E : XK} {k : Nat} {sp : Sp} {gV : List V → List V → List V} {tk : TA}
theorem x_callN0 (h : tk σ H fun zs H2 => zs.length = k ∧ sp (gV [] zs) H2 Q E) : tCallN0 k sp gV E tk σ H Q := h
end
end Wm

namespace Wm
open PySem PySem.Spec PyProof.Rows L2
abbrev R : PySem.W.OpenRow := PySem.W.OpenLaw.row PySem.Challenge.rw_wetmarks_k81_whole_great_drums_parted
def top (i : Nat) : Stmt := PySem.Challenge.pw_wetmarks_k81_whole_great_drums_parted.main.body.getD i (.Pass ⟨0, 0, 0, 0⟩)
abbrev s_is_whole : Stmt := top 8
abbrev s_is_from : Stmt := top 9
abbrev s_check_turn : Stmt := top 11
abbrev s_check_cell : Stmt := top 12
abbrev s_check_length : Stmt := top 13
abbrev s_Drumu__initu_ : Stmt := inClass (top 16) 0
abbrev s_Drumu__equ_ : Stmt := inClass (top 16) 1
abbrev s_Drum_first : Stmt := inClass (top 16) 2
abbrev s_Drum_size : Stmt := inClass (top 16) 4
abbrev s_Drum_begins : Stmt := inClass (top 16) 5
abbrev s_Drum_where : Stmt := inClass (top 16) 6
abbrev s_Drumu_turn_of : Stmt := inClass (top 16) 9
abbrev s_beneath : Stmt := top 18
abbrev s__met : Stmt := top 19
abbrev s_parted : Stmt := top 21
abbrev s_alike : Stmt := top 22
abbrev s__check_drum : Stmt := top 23
abbrev s__least_above : Stmt := top 24
abbrev s__least_from : Stmt := top 25
abbrev s__turned : Stmt := top 26
abbrev s__law_source_of : Stmt := top 28
abbrev s__law_next : Stmt := top 29
abbrev s__law_one : Stmt := top 30
abbrev s__law_cell_at : Stmt := top 31
abbrev s__law_floors : Stmt := top 32
abbrev s__law_some : Stmt := top 33
abbrev s_law : Stmt := top 34
def d_is_whole : He.DefD := ⟨("is_whole", none), "is_whole", "is_whole", defArgs s_is_whole, defBody s_is_whole, defScope s_is_whole, [], []⟩
def d_is_from : He.DefD := ⟨("is_from", none), "is_from", "is_from", defArgs s_is_from, defBody s_is_from, defScope s_is_from, [], []⟩
def d_check_turn : He.DefD := ⟨("check_turn", none), "check_turn", "check_turn", defArgs s_check_turn, defBody s_check_turn, defScope s_check_turn, [], []⟩
def d_check_cell : He.DefD := ⟨("check_cell", none), "check_cell", "check_cell", defArgs s_check_cell, defBody s_check_cell, defScope s_check_cell, [], []⟩
def d_check_length : He.DefD := ⟨("check_length", none), "check_length", "check_length", defArgs s_check_length, defBody s_check_length, defScope s_check_length, [], []⟩
def d_Drumu__initu_ : He.DefD := ⟨("Drum", some "__init__"), "__init__", "Drum.__init__", defArgs s_Drumu__initu_, defBody s_Drumu__initu_, defScope s_Drumu__initu_, [], []⟩
def d_Drumu__equ_ : He.DefD := ⟨("Drum", some "__eq__"), "__eq__", "Drum.__eq__", defArgs s_Drumu__equ_, defBody s_Drumu__equ_, defScope s_Drumu__equ_, [], []⟩
def d_Drum_first : He.DefD := ⟨("Drum", some "first"), "first", "Drum.first", defArgs s_Drum_first, defBody s_Drum_first, defScope s_Drum_first, [], []⟩
def d_Drum_size : He.DefD := ⟨("Drum", some "size"), "size", "Drum.size", defArgs s_Drum_size, defBody s_Drum_size, defScope s_Drum_size, [], []⟩
def d_Drum_begins : He.DefD := ⟨("Drum", some "begins"), "begins", "Drum.begins", defArgs s_Drum_begins, defBody s_Drum_begins, defScope s_Drum_begins, [], []⟩
def d_Drum_where : He.DefD := ⟨("Drum", some "where"), "where", "Drum.where", defArgs s_Drum_where, defBody s_Drum_where, defScope s_Drum_where, [], []⟩
def d_Drumu_turn_of : He.DefD := ⟨("Drum", some "_turn_of"), "_turn_of", "Drum._turn_of", defArgs s_Drumu_turn_of, defBody s_Drumu_turn_of, defScope s_Drumu_turn_of, [], []⟩
def d_beneath : He.DefD := ⟨("beneath", none), "beneath", "beneath", defArgs s_beneath, defBody s_beneath, defScope s_beneath, [], []⟩
def d__met : He.DefD := ⟨("_met", none), "_met", "_met", defArgs s__met, defBody s__met, defScope s__met, [], []⟩
def d_parted : He.DefD := ⟨("parted", none), "parted", "parted", defArgs s_parted, defBody s_parted, defScope s_parted, [], []⟩
def d_alike : He.DefD := ⟨("alike", none), "alike", "alike", defArgs s_alike, defBody s_alike, defScope s_alike, [], []⟩
def d__check_drum : He.DefD := ⟨("_check_drum", none), "_check_drum", "_check_drum", defArgs s__check_drum, defBody s__check_drum, defScope s__check_drum, [], []⟩
def d__least_above : He.DefD := ⟨("_least_above", none), "_least_above", "_least_above", defArgs s__least_above, defBody s__least_above, defScope s__least_above, [], []⟩
def d__least_from : He.DefD := ⟨("_least_from", none), "_least_from", "_least_from", defArgs s__least_from, defBody s__least_from, defScope s__least_from, [], []⟩
def d__turned : He.DefD := ⟨("_turned", none), "_turned", "_turned", defArgs s__turned, defBody s__turned, defScope s__turned, [], []⟩
def d__law_source_of : He.DefD := ⟨("_law_source_of", none), "_law_source_of", "_law_source_of", defArgs s__law_source_of, defBody s__law_source_of, defScope s__law_source_of, [], []⟩
def d__law_next : He.DefD := ⟨("_law_next", none), "_law_next", "_law_next", defArgs s__law_next, defBody s__law_next, defScope s__law_next, [], []⟩
def d__law_one : He.DefD := ⟨("_law_one", none), "_law_one", "_law_one", defArgs s__law_one, defBody s__law_one, defScope s__law_one, [], []⟩
def d__law_cell_at : He.DefD := ⟨("_law_cell_at", none), "_law_cell_at", "_law_cell_at", defArgs s__law_cell_at, defBody s__law_cell_at, defScope s__law_cell_at, [], []⟩
def d__law_floors : He.DefD := ⟨("_law_floors", none), "_law_floors", "_law_floors", defArgs s__law_floors, defBody s__law_floors, defScope s__law_floors, [], []⟩
def d__law_some : He.DefD := ⟨("_law_some", none), "_law_some", "_law_some", defArgs s__law_some, defBody s__law_some, defScope s__law_some, [], []⟩
def d_law : He.DefD := ⟨("law", none), "law", "law", defArgs s_law, defBody s_law, defScope s_law, [], []⟩
def fn : List He.DefD := [d_is_whole, d_is_from, d_check_turn, d_check_cell, d_check_length, d_Drumu__initu_, d_Drumu__equ_, d_Drum_first, d_Drum_size, d_Drum_begins, d_Drum_where, d_Drumu_turn_of, d_beneath, d__met, d_parted, d_alike, d__check_drum, d__least_above, d__least_from, d__turned, d__law_source_of, d__law_next, d__law_one, d__law_cell_at, d__law_floors, d__law_some, d_law]
def fa : List He.Fa := [.glo "is_whole", .glo "is_from", .glo "check_turn", .glo "check_cell", .glo "check_length", .meth "Drum" "__eq__", .meth "Drum" "first", .meth "Drum" "size", .meth "Drum" "begins", .meth "Drum" "where", .meth "Drum" "_turn_of", .glo "beneath", .glo "_met", .glo "parted", .glo "alike", .glo "_check_drum", .glo "_least_above", .glo "_least_from", .glo "_turned", .glo "_law_source_of", .glo "_law_next", .glo "_law_one", .glo "_law_cell_at", .glo "_law_floors", .glo "_law_some", .glo "law", .glo "Drum", .cls "Drum", .mkr "Drum", .noat "Drum" "_first", .noat "Drum" "_step", .free "bool", .free "int", .free "isinstance", .free "len", .free "min", .free "sorted", .int "TOO_GREAT" 1000000000000000]
def bi : List (Str × String) := [("isqrt", "math.isqrt")]
/-- what else is asked of the text -/
def obsCG (n : Nat) (fa : List He.Fa) (fn : List He.DefD) (bi : List (Str × String)) (ex : PySem.W.Frag → Bool) (g : Addr → Option Obj) : He.AlD × Bool :=
  (He.obsDG n fa fn g, bi.all (bfn (He.frG g (He.asD g n))) && ex (He.frG g (He.asD g n)))
def hookC (n : Nat) (fa : List He.Fa) (fn : List He.DefD) (bi : List (Str × String)) (ex : PySem.W.Frag → Bool) : PySem.W.Hook where
  α := He.AlD × Bool
  obs := fun s => obsCG n fa fn bi ex s.heap.get?
  val := fun _ => (He.valD fn, true)
  says := fun _ h => ∃ K : PySem.W.Frag, K.In h ∧ He.SaysD fa fn K ∧ (∀ q ∈ bi, bfn K q = true) ∧ ex K = true
  of := fun _ _ e => ⟨_, He.frG_in, congrArg (fun z : He.AlD × Bool => z.1) e, fun q hq => List.all_eq_true.mp (He.ba (show (bi.all _ && ex _) = true from congrArg (fun z : He.AlD × Bool => z.2) e)).1 q hq, (He.ba (show (bi.all _ && ex _) = true from congrArg (fun z : He.AlD × Bool => z.2) e)).2⟩
  keeps := fun _ _ _ ⟨K, hK, c⟩ k => ⟨K, PySem.W.Frag.In.keeps hK k, c⟩
theorem obsCG_eq {n : Nat} {fa : List He.Fa} {fn : List He.DefD} {bi : List (Str × String)} {ex : PySem.W.Frag → Bool} {g : Addr → Option Obj} {s : Shared} (h : ∀ a, g a = s.heap.get? a) : obsCG n fa fn bi ex g = (hookC n fa fn bi ex).obs s := by
  have e : g = s.heap.get? := funext h
  rw [e] <;> rfl
def kB (a b : Option (Option Value)) : Bool := decide (a = b)
def insB (K : PySem.W.Frag) (C : Addr) : Bool := decide (PySem.W.findIn K (.ref C) "__class__" = some (some (.builtin "object.__class__"))) && (decide (PySem.W.specialIn K (.builtin "object.__class__") "__get__" = some (some (.builtin "getset_descriptor.__get__"))) && (decide (PySem.W.takesIn K (.builtin "object.__class__") = some true) && (decide (PySem.W.mroIn K C (.type "object") = some true) && decide (PySem.W.kitOne K (.ref C) (.ref C) = some true))))
theorem insB_ok {K : PySem.W.Frag} {C : Addr} (c : Cls K C) (h : insB K C = true) : C8.InsC K C := by
  obtain ⟨h1, h⟩ := He.ba h
  obtain ⟨h2, h⟩ := He.ba h
  obtain ⟨h3, h⟩ := He.ba h
  obtain ⟨h4, h5⟩ := He.ba h
  exact ⟨c, of_decide_eq_true h1, of_decide_eq_true h2, of_decide_eq_true h3, of_decide_eq_true h4, of_decide_eq_true h5⟩
def ex (K : PySem.W.Frag) : Bool := insB K (He.ga K "Drum")
/-- what the walk asks of the text as the top has made it -/
structure Txt (K : PySem.W.Frag) (mg : Str → Option Value) : Prop where
  g_is_whole : mg "is_whole" = some (.ref (He.ga K "is_whole"))
  g_is_from : mg "is_from" = some (.ref (He.ga K "is_from"))
  g_check_turn : mg "check_turn" = some (.ref (He.ga K "check_turn"))
  g_check_cell : mg "check_cell" = some (.ref (He.ga K "check_cell"))
  g_check_length : mg "check_length" = some (.ref (He.ga K "check_length"))
  m_Drumu__equ_ : Meth K (He.ga K "Drum") "__eq__" (He.ma K (He.ga K "Drum") "__eq__")
  m_Drum_first : Meth K (He.ga K "Drum") "first" (He.ma K (He.ga K "Drum") "first")
  m_Drum_size : Meth K (He.ga K "Drum") "size" (He.ma K (He.ga K "Drum") "size")
  m_Drum_begins : Meth K (He.ga K "Drum") "begins" (He.ma K (He.ga K "Drum") "begins")
  m_Drum_where : Meth K (He.ga K "Drum") "where" (He.ma K (He.ga K "Drum") "where")
  m_Drumu_turn_of : Meth K (He.ga K "Drum") "_turn_of" (He.ma K (He.ga K "Drum") "_turn_of")
  g_beneath : mg "beneath" = some (.ref (He.ga K "beneath"))
  g__met : mg "_met" = some (.ref (He.ga K "_met"))
  g_parted : mg "parted" = some (.ref (He.ga K "parted"))
  g_alike : mg "alike" = some (.ref (He.ga K "alike"))
  g__check_drum : mg "_check_drum" = some (.ref (He.ga K "_check_drum"))
  g__least_above : mg "_least_above" = some (.ref (He.ga K "_least_above"))
  g__least_from : mg "_least_from" = some (.ref (He.ga K "_least_from"))
  g__turned : mg "_turned" = some (.ref (He.ga K "_turned"))
  g__law_source_of : mg "_law_source_of" = some (.ref (He.ga K "_law_source_of"))
  g__law_next : mg "_law_next" = some (.ref (He.ga K "_law_next"))
  g__law_one : mg "_law_one" = some (.ref (He.ga K "_law_one"))
  g__law_cell_at : mg "_law_cell_at" = some (.ref (He.ga K "_law_cell_at"))
  g__law_floors : mg "_law_floors" = some (.ref (He.ga K "_law_floors"))
  g__law_some : mg "_law_some" = some (.ref (He.ga K "_law_some"))
  g_law : mg "law" = some (.ref (He.ga K "law"))
  g_Drum : mg "Drum" = some (.ref (He.ga K "Drum"))
  cl_Drum : Cls K (He.ga K "Drum")
  mk_Drum : Mk K (He.ga K "Drum") (He.ma K (He.ga K "Drum") "__init__")
  n_first : NoAttr K (He.ga K "Drum") "_first"
  n_step : NoAttr K (He.ga K "Drum") "_step"
  z_bool : mg "bool" = none
  z_int : mg "int" = none
  z_isinstance : mg "isinstance" = none
  z_len : mg "len" = none
  z_min : mg "min" = none
  z_sorted : mg "sorted" = none
  c_TOO_GREAT : ∃ t, mg "TOO_GREAT" = some (.int 1000000000000000 t)
  i_isqrt : mg "isqrt" = some (.builtin "math.isqrt")
  x_Drum : C8.InsC K (He.ga K "Drum")
  f_is_whole : ∃ fd, FunD K d_is_whole.name d_is_whole.qual d_is_whole.params d_is_whole.body d_is_whole.scope (d_is_whole.dvs K) (d_is_whole.kws K) (He.fAd K d_is_whole.at_) fd
  k_is_whole : PySem.W.keepIn K (.ref (He.ga K "is_whole")) = true
  f_is_from : ∃ fd, FunD K d_is_from.name d_is_from.qual d_is_from.params d_is_from.body d_is_from.scope (d_is_from.dvs K) (d_is_from.kws K) (He.fAd K d_is_from.at_) fd
  k_is_from : PySem.W.keepIn K (.ref (He.ga K "is_from")) = true
  f_check_turn : ∃ fd, FunD K d_check_turn.name d_check_turn.qual d_check_turn.params d_check_turn.body d_check_turn.scope (d_check_turn.dvs K) (d_check_turn.kws K) (He.fAd K d_check_turn.at_) fd
  k_check_turn : PySem.W.keepIn K (.ref (He.ga K "check_turn")) = true
  f_check_cell : ∃ fd, FunD K d_check_cell.name d_check_cell.qual d_check_cell.params d_check_cell.body d_check_cell.scope (d_check_cell.dvs K) (d_check_cell.kws K) (He.fAd K d_check_cell.at_) fd
  k_check_cell : PySem.W.keepIn K (.ref (He.ga K "check_cell")) = true
  f_check_length : ∃ fd, FunD K d_check_length.name d_check_length.qual d_check_length.params d_check_length.body d_check_length.scope (d_check_length.dvs K) (d_check_length.kws K) (He.fAd K d_check_length.at_) fd
  k_check_length : PySem.W.keepIn K (.ref (He.ga K "check_length")) = true
  f_Drumu__initu_ : ∃ fd, FunD K d_Drumu__initu_.name d_Drumu__initu_.qual d_Drumu__initu_.params d_Drumu__initu_.body d_Drumu__initu_.scope (d_Drumu__initu_.dvs K) (d_Drumu__initu_.kws K) (He.fAd K d_Drumu__initu_.at_) fd
  f_Drumu__equ_ : ∃ fd, FunD K d_Drumu__equ_.name d_Drumu__equ_.qual d_Drumu__equ_.params d_Drumu__equ_.body d_Drumu__equ_.scope (d_Drumu__equ_.dvs K) (d_Drumu__equ_.kws K) (He.fAd K d_Drumu__equ_.at_) fd
  f_Drum_first : ∃ fd, FunD K d_Drum_first.name d_Drum_first.qual d_Drum_first.params d_Drum_first.body d_Drum_first.scope (d_Drum_first.dvs K) (d_Drum_first.kws K) (He.fAd K d_Drum_first.at_) fd
  f_Drum_size : ∃ fd, FunD K d_Drum_size.name d_Drum_size.qual d_Drum_size.params d_Drum_size.body d_Drum_size.scope (d_Drum_size.dvs K) (d_Drum_size.kws K) (He.fAd K d_Drum_size.at_) fd
  f_Drum_begins : ∃ fd, FunD K d_Drum_begins.name d_Drum_begins.qual d_Drum_begins.params d_Drum_begins.body d_Drum_begins.scope (d_Drum_begins.dvs K) (d_Drum_begins.kws K) (He.fAd K d_Drum_begins.at_) fd
  f_Drum_where : ∃ fd, FunD K d_Drum_where.name d_Drum_where.qual d_Drum_where.params d_Drum_where.body d_Drum_where.scope (d_Drum_where.dvs K) (d_Drum_where.kws K) (He.fAd K d_Drum_where.at_) fd
  f_Drumu_turn_of : ∃ fd, FunD K d_Drumu_turn_of.name d_Drumu_turn_of.qual d_Drumu_turn_of.params d_Drumu_turn_of.body d_Drumu_turn_of.scope (d_Drumu_turn_of.dvs K) (d_Drumu_turn_of.kws K) (He.fAd K d_Drumu_turn_of.at_) fd
  f_beneath : ∃ fd, FunD K d_beneath.name d_beneath.qual d_beneath.params d_beneath.body d_beneath.scope (d_beneath.dvs K) (d_beneath.kws K) (He.fAd K d_beneath.at_) fd
  k_beneath : PySem.W.keepIn K (.ref (He.ga K "beneath")) = true
  f__met : ∃ fd, FunD K d__met.name d__met.qual d__met.params d__met.body d__met.scope (d__met.dvs K) (d__met.kws K) (He.fAd K d__met.at_) fd
  k__met : PySem.W.keepIn K (.ref (He.ga K "_met")) = true
  f_parted : ∃ fd, FunD K d_parted.name d_parted.qual d_parted.params d_parted.body d_parted.scope (d_parted.dvs K) (d_parted.kws K) (He.fAd K d_parted.at_) fd
  k_parted : PySem.W.keepIn K (.ref (He.ga K "parted")) = true
  f_alike : ∃ fd, FunD K d_alike.name d_alike.qual d_alike.params d_alike.body d_alike.scope (d_alike.dvs K) (d_alike.kws K) (He.fAd K d_alike.at_) fd
  k_alike : PySem.W.keepIn K (.ref (He.ga K "alike")) = true
  f__check_drum : ∃ fd, FunD K d__check_drum.name d__check_drum.qual d__check_drum.params d__check_drum.body d__check_drum.scope (d__check_drum.dvs K) (d__check_drum.kws K) (He.fAd K d__check_drum.at_) fd
  k__check_drum : PySem.W.keepIn K (.ref (He.ga K "_check_drum")) = true
  f__least_above : ∃ fd, FunD K d__least_above.name d__least_above.qual d__least_above.params d__least_above.body d__least_above.scope (d__least_above.dvs K) (d__least_above.kws K) (He.fAd K d__least_above.at_) fd
  k__least_above : PySem.W.keepIn K (.ref (He.ga K "_least_above")) = true
  f__least_from : ∃ fd, FunD K d__least_from.name d__least_from.qual d__least_from.params d__least_from.body d__least_from.scope (d__least_from.dvs K) (d__least_from.kws K) (He.fAd K d__least_from.at_) fd
  k__least_from : PySem.W.keepIn K (.ref (He.ga K "_least_from")) = true
  f__turned : ∃ fd, FunD K d__turned.name d__turned.qual d__turned.params d__turned.body d__turned.scope (d__turned.dvs K) (d__turned.kws K) (He.fAd K d__turned.at_) fd
  k__turned : PySem.W.keepIn K (.ref (He.ga K "_turned")) = true
  f__law_source_of : ∃ fd, FunD K d__law_source_of.name d__law_source_of.qual d__law_source_of.params d__law_source_of.body d__law_source_of.scope (d__law_source_of.dvs K) (d__law_source_of.kws K) (He.fAd K d__law_source_of.at_) fd
  k__law_source_of : PySem.W.keepIn K (.ref (He.ga K "_law_source_of")) = true
  f__law_next : ∃ fd, FunD K d__law_next.name d__law_next.qual d__law_next.params d__law_next.body d__law_next.scope (d__law_next.dvs K) (d__law_next.kws K) (He.fAd K d__law_next.at_) fd
  k__law_next : PySem.W.keepIn K (.ref (He.ga K "_law_next")) = true
  f__law_one : ∃ fd, FunD K d__law_one.name d__law_one.qual d__law_one.params d__law_one.body d__law_one.scope (d__law_one.dvs K) (d__law_one.kws K) (He.fAd K d__law_one.at_) fd
  k__law_one : PySem.W.keepIn K (.ref (He.ga K "_law_one")) = true
  f__law_cell_at : ∃ fd, FunD K d__law_cell_at.name d__law_cell_at.qual d__law_cell_at.params d__law_cell_at.body d__law_cell_at.scope (d__law_cell_at.dvs K) (d__law_cell_at.kws K) (He.fAd K d__law_cell_at.at_) fd
  k__law_cell_at : PySem.W.keepIn K (.ref (He.ga K "_law_cell_at")) = true
  f__law_floors : ∃ fd, FunD K d__law_floors.name d__law_floors.qual d__law_floors.params d__law_floors.body d__law_floors.scope (d__law_floors.dvs K) (d__law_floors.kws K) (He.fAd K d__law_floors.at_) fd
  k__law_floors : PySem.W.keepIn K (.ref (He.ga K "_law_floors")) = true
  f__law_some : ∃ fd, FunD K d__law_some.name d__law_some.qual d__law_some.params d__law_some.body d__law_some.scope (d__law_some.dvs K) (d__law_some.kws K) (He.fAd K d__law_some.at_) fd
  k__law_some : PySem.W.keepIn K (.ref (He.ga K "_law_some")) = true
  f_law : ∃ fd, FunD K d_law.name d_law.qual d_law.params d_law.body d_law.scope (d_law.dvs K) (d_law.kws K) (He.fAd K d_law.at_) fd
  k_law : PySem.W.keepIn K (.ref (He.ga K "law")) = true
theorem txt {K : PySem.W.Frag} {h : Heap} {mg : Str → Option Value} (X : K.In h) (G : h.Ns mainGlobals mg) (c : He.SaysD fa fn K) (b : ∀ q ∈ bi, bfn K q = true) (x : ex K = true) : Txt K mg where
  g_is_whole := He.glo_ok X G (c.fact 0 (f := .glo "is_whole") rfl)
  g_is_from := He.glo_ok X G (c.fact 1 (f := .glo "is_from") rfl)
  g_check_turn := He.glo_ok X G (c.fact 2 (f := .glo "check_turn") rfl)
  g_check_cell := He.glo_ok X G (c.fact 3 (f := .glo "check_cell") rfl)
  g_check_length := He.glo_ok X G (c.fact 4 (f := .glo "check_length") rfl)
  m_Drumu__equ_ := He.meth_ok (c.fact 5 (f := .meth "Drum" "__eq__") rfl)
  m_Drum_first := He.meth_ok (c.fact 6 (f := .meth "Drum" "first") rfl)
  m_Drum_size := He.meth_ok (c.fact 7 (f := .meth "Drum" "size") rfl)
  m_Drum_begins := He.meth_ok (c.fact 8 (f := .meth "Drum" "begins") rfl)
  m_Drum_where := He.meth_ok (c.fact 9 (f := .meth "Drum" "where") rfl)
  m_Drumu_turn_of := He.meth_ok (c.fact 10 (f := .meth "Drum" "_turn_of") rfl)
  g_beneath := He.glo_ok X G (c.fact 11 (f := .glo "beneath") rfl)
  g__met := He.glo_ok X G (c.fact 12 (f := .glo "_met") rfl)
  g_parted := He.glo_ok X G (c.fact 13 (f := .glo "parted") rfl)
  g_alike := He.glo_ok X G (c.fact 14 (f := .glo "alike") rfl)
  g__check_drum := He.glo_ok X G (c.fact 15 (f := .glo "_check_drum") rfl)
  g__least_above := He.glo_ok X G (c.fact 16 (f := .glo "_least_above") rfl)
  g__least_from := He.glo_ok X G (c.fact 17 (f := .glo "_least_from") rfl)
  g__turned := He.glo_ok X G (c.fact 18 (f := .glo "_turned") rfl)
  g__law_source_of := He.glo_ok X G (c.fact 19 (f := .glo "_law_source_of") rfl)
  g__law_next := He.glo_ok X G (c.fact 20 (f := .glo "_law_next") rfl)
  g__law_one := He.glo_ok X G (c.fact 21 (f := .glo "_law_one") rfl)
  g__law_cell_at := He.glo_ok X G (c.fact 22 (f := .glo "_law_cell_at") rfl)
  g__law_floors := He.glo_ok X G (c.fact 23 (f := .glo "_law_floors") rfl)
  g__law_some := He.glo_ok X G (c.fact 24 (f := .glo "_law_some") rfl)
  g_law := He.glo_ok X G (c.fact 25 (f := .glo "law") rfl)
  g_Drum := He.glo_ok X G (c.fact 26 (f := .glo "Drum") rfl)
  cl_Drum := He.cls_ok (c.fact 27 (f := .cls "Drum") rfl)
  mk_Drum := He.mkr_ok (c.fact 28 (f := .mkr "Drum") rfl)
  n_first := He.noat_ok (c.fact 29 (f := .noat "Drum" "_first") rfl)
  n_step := He.noat_ok (c.fact 30 (f := .noat "Drum" "_step") rfl)
  z_bool := He.free_ok X G (c.fact 31 (f := .free "bool") rfl)
  z_int := He.free_ok X G (c.fact 32 (f := .free "int") rfl)
  z_isinstance := He.free_ok X G (c.fact 33 (f := .free "isinstance") rfl)
  z_len := He.free_ok X G (c.fact 34 (f := .free "len") rfl)
  z_min := He.free_ok X G (c.fact 35 (f := .free "min") rfl)
  z_sorted := He.free_ok X G (c.fact 36 (f := .free "sorted") rfl)
  c_TOO_GREAT := He.int_ok X G (c.fact 37 (f := .int "TOO_GREAT" 1000000000000000) rfl)
  i_isqrt := bfn_ok X G (b _ (List.mem_of_getElem? (show bi[0]? = _ from rfl)))
  x_Drum := insB_ok (He.cls_ok (c.fact 27 (f := .cls "Drum") rfl)) x
  f_is_whole := c.def_ 0 (d := d_is_whole) rfl
  k_is_whole := (c.def_ 0 (d := d_is_whole) rfl).elim fun _ F => F.kp
  f_is_from := c.def_ 1 (d := d_is_from) rfl
  k_is_from := (c.def_ 1 (d := d_is_from) rfl).elim fun _ F => F.kp
  f_check_turn := c.def_ 2 (d := d_check_turn) rfl
  k_check_turn := (c.def_ 2 (d := d_check_turn) rfl).elim fun _ F => F.kp
  f_check_cell := c.def_ 3 (d := d_check_cell) rfl
  k_check_cell := (c.def_ 3 (d := d_check_cell) rfl).elim fun _ F => F.kp
  f_check_length := c.def_ 4 (d := d_check_length) rfl
  k_check_length := (c.def_ 4 (d := d_check_length) rfl).elim fun _ F => F.kp
  f_Drumu__initu_ := c.def_ 5 (d := d_Drumu__initu_) rfl
  f_Drumu__equ_ := c.def_ 6 (d := d_Drumu__equ_) rfl
  f_Drum_first := c.def_ 7 (d := d_Drum_first) rfl
  f_Drum_size := c.def_ 8 (d := d_Drum_size) rfl
  f_Drum_begins := c.def_ 9 (d := d_Drum_begins) rfl
  f_Drum_where := c.def_ 10 (d := d_Drum_where) rfl
  f_Drumu_turn_of := c.def_ 11 (d := d_Drumu_turn_of) rfl
  f_beneath := c.def_ 12 (d := d_beneath) rfl
  k_beneath := (c.def_ 12 (d := d_beneath) rfl).elim fun _ F => F.kp
  f__met := c.def_ 13 (d := d__met) rfl
  k__met := (c.def_ 13 (d := d__met) rfl).elim fun _ F => F.kp
  f_parted := c.def_ 14 (d := d_parted) rfl
  k_parted := (c.def_ 14 (d := d_parted) rfl).elim fun _ F => F.kp
  f_alike := c.def_ 15 (d := d_alike) rfl
  k_alike := (c.def_ 15 (d := d_alike) rfl).elim fun _ F => F.kp
  f__check_drum := c.def_ 16 (d := d__check_drum) rfl
  k__check_drum := (c.def_ 16 (d := d__check_drum) rfl).elim fun _ F => F.kp
  f__least_above := c.def_ 17 (d := d__least_above) rfl
  k__least_above := (c.def_ 17 (d := d__least_above) rfl).elim fun _ F => F.kp
  f__least_from := c.def_ 18 (d := d__least_from) rfl
  k__least_from := (c.def_ 18 (d := d__least_from) rfl).elim fun _ F => F.kp
  f__turned := c.def_ 19 (d := d__turned) rfl
  k__turned := (c.def_ 19 (d := d__turned) rfl).elim fun _ F => F.kp
  f__law_source_of := c.def_ 20 (d := d__law_source_of) rfl
  k__law_source_of := (c.def_ 20 (d := d__law_source_of) rfl).elim fun _ F => F.kp
  f__law_next := c.def_ 21 (d := d__law_next) rfl
  k__law_next := (c.def_ 21 (d := d__law_next) rfl).elim fun _ F => F.kp
  f__law_one := c.def_ 22 (d := d__law_one) rfl
  k__law_one := (c.def_ 22 (d := d__law_one) rfl).elim fun _ F => F.kp
  f__law_cell_at := c.def_ 23 (d := d__law_cell_at) rfl
  k__law_cell_at := (c.def_ 23 (d := d__law_cell_at) rfl).elim fun _ F => F.kp
  f__law_floors := c.def_ 24 (d := d__law_floors) rfl
  k__law_floors := (c.def_ 24 (d := d__law_floors) rfl).elim fun _ F => F.kp
  f__law_some := c.def_ 25 (d := d__law_some) rfl
  k__law_some := (c.def_ 25 (d := d__law_some) rfl).elim fun _ F => F.kp
  f_law := c.def_ 26 (d := d_law) rfl
  k_law := (c.def_ 26 (d := d_law) rfl).elim fun _ F => F.kp
abbrev hk : PySem.W.Hook := hookC 5 fa fn bi ex
def ob (s : PySem.W.SharedT) : He.AlD × Bool := obsCG 5 fa fn bi ex (HandSHeadRun.getT s)
theorem ob_eq (s : PySem.W.SharedT) : ob s = hk.obs s.abs := obsCG_eq (HandSHeadRun.getT_eq s)
def loose : List Str := [("_wall" : Str), ("WetError" : Str), ("BadDrum" : Str), ("NoTurn" : Str), ("NoCell" : Str), ("is_whole" : Str), ("is_from" : Str), ("check_turn" : Str), ("check_cell" : Str), ("check_length" : Str), ("TOO_GREAT" : Str), ("Drum" : Str), ("beneath" : Str), ("_met" : Str), ("parted" : Str), ("alike" : Str), ("_check_drum" : Str), ("_least_above" : Str), ("_least_from" : Str), ("_turned" : Str), ("_law_source_of" : Str), ("_law_next" : Str), ("_law_one" : Str), ("_law_cell_at" : Str), ("_law_floors" : Str), ("_law_some" : Str)]
theorem run (w : World) : HandSHeadRun.RunEqI R (PySem.W.view R.prog [0, 34]) hk ob 6000 loose w := by
  unfold HandSHeadRun.RunEqI
  kernel_rfl
end Wm
namespace Wm
open PySem PySem.Spec PyProof.Rows L2

theorem x_cut81 {t u : TS} {D : Ends} {σ : L2.St} {H : Hp} (Mid : L2.St → Hp → Prop) (h1 : t { D with nx := Mid } σ H) (h2 : ∀ σ' H', Mid σ' H' → u D σ' H') : C8.tCut t u D σ H := ⟨Mid, h1, h2⟩

local macro_rules | `(tactic| walk_at "bd") => `(tactic| (repeat (first
  | with_reducible assumption
  | exact Drm.bf (by assumption)
  | exact Drm.bs (by assumption)
  | exact Bd.lit8 (by decide)
  | exact Bd.lit (by decide)
  | with_reducible apply Bd.add
  | with_reducible apply Bd.sub
  | with_reducible apply Bd.mul
  | with_reducible apply Bd.div
  | decide)))
local macro_rules | `(tactic| walk_at "bdm") => `(tactic| (first | with_reducible assumption | (apply Bd.mono; (walk_at "bd"))))
local macro_rules | `(tactic| walk_at "cm") => `(tactic| (apply cm; (walk_at "bd")))
local macro_rules | `(tactic| walk_at "cd") => `(tactic| (apply cd; (first | omega | exact (Drm.f1 (by assumption)) | skip); (walk_at "bd")))
local macro_rules | `(tactic| walk_at "drm") => `(tactic| (repeat (first
  | with_reducible assumption
  | ((with_reducible apply Drm.same); (with_reducible assumption))
  | ((with_reducible apply Drm.upd); (with_reducible assumption))
  | ((with_reducible apply Drm.but); (with_reducible assumption); (case' hs => walk_at "src")))))
local macro_rules | `(tactic| walk_at "src") => `(tactic| (repeat (first
  | with_reducible assumption
  | ((with_reducible apply Src.same); (with_reducible assumption))
  | ((with_reducible apply Src.upd); (with_reducible assumption)))))
local macro_rules | `(tactic| walk_at "at") => `(tactic| (repeat (first
  | with_reducible assumption
  | exact upd_same
  | ((with_reducible apply at_same); (with_reducible assumption))
  | ((with_reducible apply at_upd); (with_reducible assumption))
  | ((with_reducible apply tup_but); (with_reducible assumption); (case' hs => walk_at "src"))
  | ((with_reducible apply at_but); (with_reducible assumption); (with_reducible assumption)))))
local macro_rules | `(tactic| walk_at "rd1") => `(tactic| (first
  | with_reducible refine x_seq ?_
  | with_reducible refine x_asg ?_
  | ((with_reducible refine' x_set ?e0 ?_); (case e0 => (dsimp only [List.set])))
  | ((with_reducible refine' x_var ?e0 ?_); (case e0 => exact rfl))
  | with_reducible refine x_c ?_
  | with_reducible refine x_op ?_
  | with_reducible refine x_un ?_
  | with_reducible refine x_rI0 ?_
  | with_reducible refine x_rEqI ?_
  | with_reducible refine x_rNeI ?_
  | with_reducible refine x_rU ?_
  | with_reducible refine x_drop ?_
  | with_reducible refine x_ret ?_
  | with_reducible refine x_retN ?_
  | with_reducible refine x_next ?_
  | with_reducible refine x_ifS ?_
  | with_reducible refine x_test ?_
  | with_reducible refine x_B ?_
  | with_reducible refine x_asB ?_
  | with_reducible refine x_not ?_
  | with_reducible refine x_and ?_
  | with_reducible refine x_or ?_
  | with_reducible refine x_andV ?_
  | with_reducible refine x_orV ?_
  | with_reducible refine x_notV ?_
  | with_reducible refine x_tIf ?_
  | with_reducible refine x_chain ?_
  | with_reducible refine x_chK ?_
  | with_reducible refine x_nil ?_
  | with_reducible refine x_cons ?_
  | with_reducible refine x_cb ?_
  | with_reducible refine x_call ?_
  | with_reducible refine x_meth ?_
  | with_reducible refine x_fld ?_
  | with_reducible refine x_make ?_
  | with_reducible refine x_tup ?_
  | with_reducible refine x_lst ?_
  | with_reducible refine x_gSub ?_
  | (with_reducible refine x_gNil ?_)
  | (with_reducible refine x_gCons ?_)
  | ((with_reducible refine' x_gTup ?e0 ?e1 ?_); (case e0 => (walk_at "at")); (case e1 => rfl))
  | ((with_reducible refine' x_fst ?c0 ?c1 ?e0 ?_); (case c0 => exact Txt.cl_Drum (by assumption)); (case c1 => exact Txt.n_first (by assumption)); (case e0 => (walk_at "drm")))
  | ((with_reducible refine' x_stp ?c0 ?c1 ?e0 ?_); (case c0 => exact Txt.cl_Drum (by assumption)); (case c1 => exact Txt.n_step (by assumption)); (case e0 => (walk_at "drm")))
  | ((with_reducible refine' x_methD ?e0 ?e1 ?_); (case e0 => (walk_at "drm")); (case e1 => first | exact nm_where | exact nm_size | exact nm_begins | exact nm_turn_of | exact nm_first | exact nm_step | exact nm_cell_at | exact nm_filled))
  | ((with_reducible refine' x_size ?e0 ?_); (case e0 => exact Nat.le_of_ble_eq_true rfl))
  | ((with_reducible refine' x_rI (C := CMulW) ?e0 ?_); (case e0 => walk_at "cm"))
  | ((with_reducible refine' x_rI (C := CDivW) ?e0 ?_); (case e0 => walk_at "cd"))
  | ((with_reducible refine' x_rI (C := CPow) ?e0 ?_); (case e0 => exact ⟨by decide, by decide, by decide⟩))
  | ((with_reducible refine' x_rI (C := fun _ j => j ≠ 0) ?e0 ?_); (case e0 => (show (_ : Int) ≠ 0); omega))
  | ((with_reducible refine' x_ixL ?e0 ?e1 ?_); (case e0 => exact sql (by walk_at "at")); (case e1 => rfl))
  | ((with_reducible refine' x_ixT ?e0 ?e1 ?_); (case e0 => (walk_at "at")); (case e1 => rfl))
  | ((with_reducible refine' x_lenL ?e0 ?_); (case e0 => first | assumption | exact sql (by walk_at "at")))
  | ((with_reducible refine' x_lenT ?e0 ?_); (case e0 => (walk_at "at")))
  | with_reducible refine x_max ?_
  | with_reducible refine x_min ?_
  | with_reducible refine x_intB ?_
  | with_reducible refine x_parK ?_
  | with_reducible refine x_parK3 ?_
  | ((with_reducible refine' x_par3 ?e0 ?_); (case e0 => (dsimp only [List.set])))
  | ((with_reducible refine' x_par2 ?e0 ?_); (case e0 => (dsimp only [List.set])))
  | with_reducible refine x_methN ?_
  | ((with_reducible refine' x_methND ?e0 ?e1 ?_); (case e0 => (walk_at "drm")); (case e1 => first | exact nm_where | exact nm_size | exact nm_begins | exact nm_turn_of | exact nm_first | exact nm_step | exact nm_cell_at | exact nm_filled))
  | ((with_reducible refine' x_len1 ?e0 ?_); (case e0 => rfl); dsimp only [List.cons_append, List.nil_append])
  | ((with_reducible refine' y_law_begins ?e0 ?e1 ?e2 ?_); (case e0 => walk_at "bdm"); (case e1 => walk_at "bdm"); (case e2 => walk_at "bdm"))
  | with_reducible refine x_for1 ?_
  | with_reducible refine x_forW ?_
  | with_reducible refine x_asRW ?_
  | ((with_reducible refine' x_asR1 ?e0 ?e1 ?_); (case e0 => omega); (case e1 => omega))
  | with_reducible refine x_bm ?_
  | ((with_reducible refine' x_bmL ?e0 ?_); (case e0 => first | assumption | exact sql (by walk_at "at")))
  | ((with_reducible refine' x_cat ?e0 ?e1 ?e2 ?_); (case e0 => walk_at "at"); (case e1 => walk_at "at"); (case e2 => exact Nat.le_trans (Nat.le_of_ble_eq_true (m := 1000) rfl) (by decide)))
  | ((with_reducible refine' x_cut2 ?e0 ?_); (case e0 => walk_at "at"))
  | ((with_reducible refine' x_neT3 ?e0 ?e1 ?_); (case e0 => walk_at "at"); (case e1 => walk_at "at"))
  | ((with_reducible refine' x_neT2 ?e0 ?e1 ?_); (case e0 => walk_at "at"); (case e1 => walk_at "at"))
  | ((with_reducible refine' x_eqT3 ?e0 ?e1 ?_); (case e0 => walk_at "at"); (case e1 => walk_at "at"))
  | ((with_reducible refine' x_eqT2 ?e0 ?e1 ?_); (case e0 => walk_at "at"); (case e1 => walk_at "at"))
  | with_reducible refine x_isN0 ?_
  | with_reducible refine x_isN1 ?_
  | with_reducible refine x_isN2 ?_
  | with_reducible refine x_notN0 ?_
  | with_reducible refine x_notN1 ?_
  | with_reducible refine x_notN2 ?_
  | with_reducible refine x_sl ?_
  | with_reducible refine x_noPart ?_
  | with_reducible refine x_part ?_
  | with_reducible refine x_asI ?_
  | with_reducible refine x_for ?_
  | with_reducible refine y_whole ?_
  | with_reducible refine y_from ?_
  | ((with_reducible refine' y_below ?e0 ?_); (case e0 => omega))
  | ((with_reducible refine' y_cturn ?e0 ?_); (case e0 => omega))
  | ((with_reducible refine' y_ccell ?e0 ?_); (case e0 => omega))
  | ((with_reducible refine' y_clen ?e0 ?_); (case e0 => omega))
  | ((with_reducible refine' y_cbelow ?e0 ?e1 ?_); (case e0 => omega); (case e1 => omega))
  | ((with_reducible refine' y_cbeats ?e0 ?_); (case e0 => omega))
  | ((with_reducible refine' y_cplace ?e0 ?e1 ?_); (case e0 => omega); (case e1 => omega))
  | ((with_reducible refine' y_first ?e0 ?_); (case e0 => walk_at "drm"))
  | ((with_reducible refine' y_step ?e0 ?_); (case e0 => walk_at "drm"))
  | ((with_reducible refine' y_size ?e0 ?e1 ?e2 ?_); (case e0 => (walk_at "drm")); (case e1 => omega); (case e2 => omega))
  | ((with_reducible refine' y_begins ?e0 ?e1 ?e2 ?_); (case e0 => (walk_at "drm")); (case e1 => omega); (case e2 => omega))
  | ((with_reducible refine' y_turn_of ?e0 ?e1 ?e2 ?_); (case e0 => (walk_at "drm")); (case e1 => omega); (case e2 => omega))
  | with_reducible refine x_t ?_
  | with_reducible refine x_f ?_
  | with_reducible refine x_nt ?_
  | with_reducible refine x_nf ?_
  | ((with_reducible refine' x_iteT ?e0 ?_); (case e0 => omega))
  | ((with_reducible refine' x_iteF ?e0 ?_); (case e0 => omega))
  | ((with_reducible refine' x_iteNF ?e0 ?_); (case e0 => omega))
  | ((with_reducible refine' x_iteNT ?e0 ?_); (case e0 => omega))))
local macro_rules | `(tactic| walk_at "len") => `(tactic| exact Nat.le_of_ble_eq_true rfl)
local macro_rules | `(tactic| walk_at "mem") => `(tactic| (simp only [List.mem_cons, List.not_mem_nil, or_false] at *))
local macro_rules | `(tactic| walk_at "rd") => `(tactic| (repeat (walk_at "rd1")))
theorem sc__law_cell_at : FnScope ["_law_script", "_law_k"] ["_law_script", "_law_k"] (defScope s__law_cell_at) := ⟨rfl, rfl, rfl, by decide +kernel, rfl, by decide +kernel, by decide +kernel⟩
theorem ok__law_cell_at {P : Program} {w : World} {K : PySem.W.Frag} {mg : Str → Option Value} {base : Heap} (T : Txt K mg) : ∃ fd, FnOk P w K mg base CX0 1 (He.ga K "_law_cell_at") fd ["_law_script", "_law_k"] (sp__law_cell_at K) ∧ Binds K fd ["_law_script", "_law_k"] [] ∧ FunD K d__law_cell_at.name d__law_cell_at.qual d__law_cell_at.params d__law_cell_at.body d__law_cell_at.scope (d__law_cell_at.dvs K) (d__law_cell_at.kws K) (He.fAd K d__law_cell_at.at_) fd := by
  obtain ⟨fd, F⟩ := T.f__law_cell_at
  refine ⟨fd, ?_, F.bindsN fun _ _ _ _ _ _ us hl => match us, hl with | [_, _], _ => rfl, F⟩
  refine F.ok (k := 0) sc__law_cell_at (fun vs H Q E h => ?_) (fun cdv A outer s H vs Q E hr h => ?_)
  · obtain ⟨a, ns, c, rfl, _⟩ := h
    rfl
  · obtain ⟨a, ns, c, rfl, hs, hl, c0, k⟩ := h
    refine ⟨_, PSs.nox (pss_cons (ps_if (pt_cmpR op_lt (pv 1) (pe_callB cl_len (by rfl) T.z_len (by decide +kernel) (pa_cons (pv 0) pa_nil)) (nomark _)) (pss_one (ps_ret (pe_ix ix_list (pv 0) (pv 1) (fun _ _ => rfl)))) pss_nil)
      (pss_one (ps_ret pe_int))), ?_⟩
    show (_ : TS) _ [some (.ref a), some (.int c)] _
    try dsimp only [nk]
    walk_at "rd"
    refine x_ite (fun g => ?_) (fun g => ?_)
    · walk_at "rd"
      obtain ⟨v, hv, ev⟩ := atI_in c0 g
      obtain ⟨z, _, rfl⟩ := List.mem_map.mp hv
      refine x_ixL hs ev ?_
      exact k z
    · walk_at "rd"
      exact k 0
theorem sc_is_whole : FnScope ["thing"] ["thing"] (defScope s_is_whole) := ⟨rfl, rfl, rfl, by decide +kernel, rfl, by decide +kernel, by decide +kernel⟩
theorem ok_is_whole {P : Program} {w : World} {K : PySem.W.Frag} {mg : Str → Option Value} {base : Heap} (T : Txt K mg) : ∃ fd, FnOk P w K mg base CX0 1 (He.ga K "is_whole") fd ["thing"] sp_is_whole ∧ Binds K fd ["thing"] [] ∧ FunD K d_is_whole.name d_is_whole.qual d_is_whole.params d_is_whole.body d_is_whole.scope (d_is_whole.dvs K) (d_is_whole.kws K) (He.fAd K d_is_whole.at_) fd := by
  obtain ⟨fd, F⟩ := T.f_is_whole
  refine ⟨fd, ?_, F.bindsN fun _ _ _ _ _ _ us hl => match us, hl with | [_], _ => rfl, F⟩
  refine F.ok (k := 0) sc_is_whole (fun vs H Q E h => ?_) (fun cdv A outer s H vs Q E hr h => ?_)
  · obtain ⟨n, rfl, _⟩ := h
    rfl
  · obtain ⟨n, rfl, k⟩ := h
    refine ⟨_, PSs.nox (pss_one (ps_ret (pe_and (pe_callB call_isi (by rfl) T.z_isinstance (by decide +kernel) (pa_cons (pv 0) (pa_cons (pe_bltn (v := .ty "int") (by rfl) T.z_int (by decide +kernel) rfl) pa_nil))) (pe_one (pe_not (pe_callB call_isi (by rfl) T.z_isinstance (by decide +kernel) (pa_cons (pv 0) (pa_cons (pe_bltn (v := .ty "bool") (by rfl) T.z_bool (by decide +kernel) rfl) pa_nil)))))))), ?_⟩
    show (_ : TS) _ [some (.int n)] _
    try dsimp only [nk]
    walk_at "rd"
    refine x_isi (T := "int") (b := true) (by decide +kernel) ?_
    walk_at "rd"
    refine x_isi (T := "bool") (b := false) (by decide +kernel) ?_
    walk_at "rd"
    exact k
theorem sc__turned : FnScope ["fraction", "whole", "top", "bottom"] ["fraction", "whole"] (defScope s__turned) := ⟨rfl, rfl, rfl, by decide +kernel, rfl, by decide +kernel, by decide +kernel⟩
theorem ok__turned {P : Program} {w : World} {K : PySem.W.Frag} {mg : Str → Option Value} {base : Heap} (T : Txt K mg) : ∃ fd, FnOk P w K mg base CX0 1 (He.ga K "_turned") fd ["fraction", "whole"] sp__turned ∧ Binds K fd ["fraction", "whole"] [] ∧ FunD K d__turned.name d__turned.qual d__turned.params d__turned.body d__turned.scope (d__turned.dvs K) (d__turned.kws K) (He.fAd K d__turned.at_) fd := by
  obtain ⟨fd, F⟩ := T.f__turned
  refine ⟨fd, ?_, F.bindsN fun _ _ _ _ _ _ us hl => match us, hl with | [_, _], _ => rfl, F⟩
  refine F.ok (k := 0) sc__turned (fun vs H Q E h => ?_) (fun cdv A outer s H vs Q E hr h => ?_)
  · obtain ⟨p, x, y, w, rfl, _⟩ := h
    rfl
  · obtain ⟨p, x, y, w, rfl, e, bw, by', k⟩ := h
    refine ⟨_, PSs.nox (pss_cons (ps_asg (pv 0) (pg_tup rfl (pgs_cons (pg_name (i := 2) sc__turned.nd rfl (Or.inl rfl)) (pgs_cons (pg_name (i := 3) sc__turned.nd rfl (Or.inl rfl)) pgs_nil))))
      (pss_one (ps_ret (pe_tup (pa_cons (pv 3) (pa_cons (pe_op op_sub (pv 2) (pe_op op_mulW (pv 1) (pv 3))) pa_nil)))))), ?_⟩
    show (_ : TS) _ [some (.ref p), some (.int w), none, none] _
    try dsimp only [nk]
    walk_at "rd"
    intro q hq
    exact k q _ (same_upd hq) upd_same
theorem sc_Drum_first : FnScope ["self"] ["self"] (defScope s_Drum_first) := ⟨rfl, rfl, rfl, by decide +kernel, rfl, by decide +kernel, by decide +kernel⟩
theorem ok_Drum_first {P : Program} {w : World} {K : PySem.W.Frag} {mg : Str → Option Value} {base : Heap} (T : Txt K mg) : ∃ fd, FnOk P w K mg base CX0 1 (He.ma K (He.ga K "Drum") "first") fd ["self"] (sp_Drum_first K) ∧ Binds K fd ["self"] [] ∧ FunD K d_Drum_first.name d_Drum_first.qual d_Drum_first.params d_Drum_first.body d_Drum_first.scope (d_Drum_first.dvs K) (d_Drum_first.kws K) (He.fAd K d_Drum_first.at_) fd := by
  obtain ⟨fd, F⟩ := T.f_Drum_first
  refine ⟨fd, ?_, F.bindsN fun _ _ _ _ _ _ us hl => match us, hl with | [_], _ => rfl, F⟩
  refine F.ok (k := 0) sc_Drum_first (fun vs H Q E h => ?_) (fun cdv A outer s H vs Q E hr h => ?_)
  · obtain ⟨p, f, s, rfl, _⟩ := h
    rfl
  · obtain ⟨p, f, s, rfl, d, k⟩ := h
    refine ⟨_, PSs.nox (pss_one (ps_ret (pe_fld (pv 0) rfl))), ?_⟩
    show (_ : TS) _ [some (.ref p)] _
    try dsimp only [nk]
    walk_at "rd"
    exact k
theorem sc_Drumu__equ_ : FnScope ["self", "other"] ["self", "other"] (defScope s_Drumu__equ_) := ⟨rfl, rfl, rfl, by decide +kernel, rfl, by decide +kernel, by decide +kernel⟩
theorem ok_Drumu__equ_ {P : Program} {w : World} {K : PySem.W.Frag} {mg : Str → Option Value} {base : Heap} (T : Txt K mg) : ∃ fd, FnOk P w K mg base CX0 1 (He.ma K (He.ga K "Drum") "__eq__") fd ["self", "other"] (sp_Drumu__equ_ K) ∧ Binds K fd ["self", "other"] [] ∧ FunD K d_Drumu__equ_.name d_Drumu__equ_.qual d_Drumu__equ_.params d_Drumu__equ_.body d_Drumu__equ_.scope (d_Drumu__equ_.dvs K) (d_Drumu__equ_.kws K) (He.fAd K d_Drumu__equ_.at_) fd := by
  obtain ⟨fd, F⟩ := T.f_Drumu__equ_
  refine ⟨fd, ?_, F.bindsN fun _ _ _ _ _ _ us hl => match us, hl with | [_, _], _ => rfl, F⟩
  refine F.ok (k := 0) sc_Drumu__equ_ (fun vs H Q E h => ?_) (fun cdv A outer s H vs Q E hr h => ?_)
  · obtain ⟨p, q, f, s, g, t, rfl, _⟩ := h
    rfl
  · obtain ⟨p, q, f, s, g, t, rfl, d, d', k⟩ := h
    refine ⟨_, PSs.nox (pss_one (ps_ret (pe_and (pe_callB (C8.call_isC T.x_Drum) (by rfl) T.z_isinstance (by decide +kernel) (pa_cons (pv 1) (pa_cons (pe_glob (v := .ref (He.ga K "Drum")) rfl T.g_Drum rfl) pa_nil))) (pe_and (pe_cmpR op_eq (pe_fld (pv 0) rfl) (pe_fld (pv 1) rfl) (nomark _)) (pe_one (pe_cmpR op_eq (pe_fld (pv 0) rfl) (pe_fld (pv 1) rfl) (nomark _))))))), ?_⟩
    show (_ : TS) _ [some (.ref p), some (.ref q)] _
    try dsimp only [nk]
    walk_at "rd"
    refine x_isC d' ?_
    walk_at "rd"
    refine x_ite (p := f = g) (fun c => ?_) (fun c => ?_)
    · walk_at "rd"
      have e : decide (f = g ∧ s = t) = decide (s = t) := by simp [c]
      rw [e] at k
      exact k
    · walk_at "rd"
      have e : decide (f = g ∧ s = t) = false := by simp [c]
      rw [e] at k
      exact k
theorem sc__check_drum : FnScope ["part", "drum"] ["part", "drum"] (defScope s__check_drum) := ⟨rfl, rfl, rfl, by decide +kernel, rfl, by decide +kernel, by decide +kernel⟩
theorem ok__check_drum {P : Program} {w : World} {K : PySem.W.Frag} {mg : Str → Option Value} {base : Heap} (T : Txt K mg) : ∃ fd, FnOk P w K mg base CX0 1 (He.ga K "_check_drum") fd ["part", "drum"] (sp__check_drum K) ∧ Binds K fd ["part", "drum"] [] ∧ FunD K d__check_drum.name d__check_drum.qual d__check_drum.params d__check_drum.body d__check_drum.scope (d__check_drum.dvs K) (d__check_drum.kws K) (He.fAd K d__check_drum.at_) fd := by
  obtain ⟨fd, F⟩ := T.f__check_drum
  refine ⟨fd, ?_, F.bindsN fun _ _ _ _ _ _ us hl => match us, hl with | [_, _], _ => rfl, F⟩
  refine F.ok (k := 0) sc__check_drum (fun vs H Q E h => ?_) (fun cdv A outer s H vs Q E hr h => ?_)
  · obtain ⟨z, p, f, s, rfl, _⟩ := h
    rfl
  · obtain ⟨z, p, f, s, rfl, d, k⟩ := h
    refine ⟨_, PSs.nox (pss_one (ps_if (pt_not (pt_val (pe_callB (C8.call_isC T.x_Drum) (by rfl) T.z_isinstance (by decide +kernel) (pa_cons (pv 1) (pa_cons (pe_glob (v := .ref (He.ga K "Drum")) rfl T.g_Drum rfl) pa_nil))))) (pss_one ps_never) pss_nil)), ?_⟩
    show (_ : TS) _ [some (.str z), some (.ref p)] _
    try dsimp only [nk]
    walk_at "rd"
    refine x_isC d ?_
    walk_at "rd"
    exact k
theorem sc_Drumu_turn_of : FnScope ["self", "cell", "slope", "root"] ["self", "cell"] (defScope s_Drumu_turn_of) := ⟨rfl, rfl, rfl, by decide +kernel, rfl, by decide +kernel, by decide +kernel⟩
theorem ok_Drumu_turn_of {P : Program} {w : World} {K : PySem.W.Frag} {mg : Str → Option Value} {base : Heap} (T : Txt K mg) : ∃ fd, FnOk P w K mg base CX0 1 (He.ma K (He.ga K "Drum") "_turn_of") fd ["self", "cell"] (sp_Drumu_turn_of K) ∧ Binds K fd ["self", "cell"] [] ∧ FunD K d_Drumu_turn_of.name d_Drumu_turn_of.qual d_Drumu_turn_of.params d_Drumu_turn_of.body d_Drumu_turn_of.scope (d_Drumu_turn_of.dvs K) (d_Drumu_turn_of.kws K) (He.fAd K d_Drumu_turn_of.at_) fd := by
  obtain ⟨fd, F⟩ := T.f_Drumu_turn_of
  refine ⟨fd, ?_, F.bindsN fun _ _ _ _ _ _ us hl => match us, hl with | [_, _], _ => rfl, F⟩
  refine F.ok (k := 0) sc_Drumu_turn_of (fun vs H Q E h => ?_) (fun cdv A outer s H vs Q E hr h => ?_)
  · obtain ⟨p, f, s, c, rfl, _⟩ := h
    rfl
  · obtain ⟨p, f, s, c, rfl, d, h0, h1, k⟩ := h
    refine ⟨_, PSs.nox (pss_cons (ps_if (pt_cmpR op_eq (pe_fld (pv 0) rfl) pe_int (nomark _)) (pss_one (ps_ret (pe_op op_fdivW (pv 1) (pe_fld (pv 0) rfl)))) pss_nil)
      (pss_cons (ps_set (i := 2) sc_Drumu_turn_of.nd rfl (Or.inl rfl) (pe_op op_sub (pe_op op_mulW pe_int (pe_fld (pv 0) rfl)) (pe_fld (pv 0) rfl)))
      (pss_cons (ps_set (i := 3) sc_Drumu_turn_of.nd rfl (Or.inl rfl) (pe_callBfun cr_isqrt rfl T.i_isqrt (pa_cons (pe_op op_add (pe_op op_mulW (pv 2) (pv 2)) (pe_op op_mulW (pe_op op_mulW pe_int (pe_fld (pv 0) rfl)) (pv 1))) pa_nil)))
      (pss_one (ps_ret (pe_op op_fdivW (pe_op op_sub (pv 3) (pv 2)) (pe_op op_mulW pe_int (pe_fld (pv 0) rfl)))))))), ?_⟩
    show (_ : TS) _ [some (.ref p), some (.int c), none, none] _
    try dsimp only [nk]
    have bt : Bd 1000 c := Bd.of h0 h1
    have f1 := d.f1
    have s0 := d.s0
    walk_at "rd"
    refine x_ite (p := s = 0) (fun e => ?_) (fun e => ?_)
    · walk_at "rd"
      have e2 : tOf f s c = c / f := by unfold tOf; rw [if_pos e]
      rw [e2] at k
      exact k
    · walk_at "rd"
      have hN : 0 ≤ (2 * f - s) * (2 * f - s) + 8 * s * c := by
        have a := sq_nn (2 * f - s)
        have b := mul_nn (mul_nn (show (0 : Int) ≤ 8 by decide) s0) h0
        omega
      refine x_isqrt hN (Bd.mono (k := 2000) (by
        have x1 : Bd (51 + 51) ((2 * f - s) * (2 * f - s)) := by
          have f2 := d.f2
          have s2 := d.s2
          have : Bd 51 (2 * f - s) := by unfold Bd; omega
          exact this.mul this
        have x2 : Bd (53 + 1000) (8 * s * c) := by
          have s2 := d.s2
          have : Bd 53 (8 * s) := by unfold Bd; omega
          exact this.mul bt
        exact (x1.add x2).mono (by decide)) (by decide)) ?_
      walk_at "rd"
      have e2 : tOf f s c = (((PySem.Float64.isqrt ((2 * f - s) * (2 * f - s) + 8 * s * c).toNat : Nat) : Int) - (2 * f - s)) / (2 * s) := by unfold tOf; rw [if_neg e]
      rw [e2] at k
      exact k
theorem sc__law_floors : FnScope ["_law_many", "_law_bottom", "_law_top", "_law_rest", "_law_found", "_law_high"] ["_law_many", "_law_bottom", "_law_top", "_law_rest"] (defScope s__law_floors) := ⟨rfl, rfl, rfl, by decide +kernel, rfl, by decide +kernel, by decide +kernel⟩
theorem ok__law_floors {P : Program} {w : World} {K : PySem.W.Frag} {mg : Str → Option Value} {base : Heap} (T : Txt K mg) : ∃ fd, FnOk P w K mg base CX0 1 (He.ga K "_law_floors") fd ["_law_many", "_law_bottom", "_law_top", "_law_rest"] sp__law_floors ∧ Binds K fd ["_law_many", "_law_bottom", "_law_top", "_law_rest"] [] ∧ FunD K d__law_floors.name d__law_floors.qual d__law_floors.params d__law_floors.body d__law_floors.scope (d__law_floors.dvs K) (d__law_floors.kws K) (He.fAd K d__law_floors.at_) fd := by
  obtain ⟨fd, F⟩ := T.f__law_floors
  refine ⟨fd, ?_, F.bindsN fun _ _ _ _ _ _ us hl => match us, hl with | [_, _, _, _], _ => rfl, F⟩
  refine F.ok (k := 0) sc__law_floors (fun vs H Q E h => ?_) (fun cdv A outer s H vs Q E hr h => ?_)
  · obtain ⟨n, b, a, c, rfl, _⟩ := h
    rfl
  · obtain ⟨n, b, a, c, rfl, n0, n1, b0, b1, a0, a1, c0, c1, k⟩ := h
    refine ⟨_, PSs.nox (pss_cons (ps_set (i := 4) sc__law_floors.nd rfl (Or.inl rfl) pe_int)
      (pss_cons (ps_while PassesOwn.never (pt_cmpR op_gt (pv 0) pe_int (nomark _)) (pss_cons (ps_set (i := 4) sc__law_floors.nd rfl (Or.inl rfl) (pe_op op_add (pv 4) (pe_op op_mulW (pe_op op_fdivW (pe_op op_mulW (pv 0) (pe_op op_sub (pv 0) pe_int)) pe_int) (pe_op op_fdivW (pv 2) (pv 1)))))
      (pss_cons (ps_set (i := 4) sc__law_floors.nd rfl (Or.inl rfl) (pe_op op_add (pv 4) (pe_op op_mulW (pv 0) (pe_op op_fdivW (pv 3) (pv 1)))))
      (pss_cons (ps_par (i := 2) (j := 3) (by rfl) sc__law_floors.nd rfl rfl (by decide) rfl rfl (pa_cons (pe_op op_modN (pv 2) (pv 1)) (pa_cons (pe_op op_modN (pv 3) (pv 1)) pa_nil)) (by rfl))
      (pss_cons (ps_set (i := 5) sc__law_floors.nd rfl (Or.inl rfl) (pe_op op_add (pe_op op_mulW (pv 2) (pv 0)) (pv 3)))
      (pss_cons (ps_par (i := 0) (j := 3) (by rfl) sc__law_floors.nd rfl rfl (by decide) rfl rfl (pa_cons (pe_op op_fdivW (pv 5) (pv 1)) (pa_cons (pe_op op_modN (pv 5) (pv 1)) pa_nil)) (by rfl))
      (pss_one (ps_par (i := 1) (j := 2) (by rfl) sc__law_floors.nd rfl rfl (by decide) rfl rfl (pa_cons (pv 2) (pa_cons (pv 1) pa_nil)) (by rfl)))))))))
      (pss_one (ps_ret (pv 4))))), ?_⟩
    show (_ : TS) _ [some (.int n), some (.int b), some (.int a), some (.int c), none, none] _
    try dsimp only [nk]
    walk_at "rd"
    refine x_while (fun σ H' => H' = H ∧ ∃ (n' b' a' c' fd : Int) (v : Option V), σ = [some (.int n'), some (.int b'), some (.int a'), some (.int c'), some (.int fd), v] ∧ 0 ≤ n' ∧ n' < 2 ^ 60 ∧ 0 ≤ b' ∧ (0 < n' → 0 < b') ∧ b' < 2 ^ 60 ∧ 0 ≤ a' ∧ a' < 2 ^ 60 ∧ 0 ≤ c' ∧ c' < 2 ^ 60 ∧ fd + fsum b' a' c' n'.toNat = fsum b a c n.toNat) (fun σ => (sI 1 σ).toNat)
      ⟨rfl, n, b, a, c, 0, _, rfl, n0, n1, by omega, fun _ => by omega, b1, a0, a1, c0, c1, by omega⟩ ?_
    rintro σ H1 ⟨rfl, n', b', a', c', fd, v, rfl, n0, n1, b0, bp, b1, a0, a1, c0, c1, inv⟩
    walk_at "rd"
    refine x_wh (fun g => ?_) (fun g => ?_)
    · have hb : 0 < b' := bp (by omega)
      have bn : Bd 60 n' := Bd.of n0 n1
      have bb : Bd 60 b' := Bd.of b0 b1
      have ba : Bd 60 a' := Bd.of a0 a1
      have bc : Bd 60 c' := Bd.of c0 c1
      have q0 : 0 ≤ a' % b' := Int.emod_nonneg _ (by omega)
      have q1 : a' % b' < b' := Int.emod_lt_of_pos _ hb
      have r0 : 0 ≤ c' % b' := Int.emod_nonneg _ (by omega)
      have r1 : c' % b' < b' := Int.emod_lt_of_pos _ hb
      have tn : ((n'.toNat : Nat) : Int) = n' := by omega
      have S1 := fsum_rest hb a' c' n'.toNat
      obtain ⟨S2, S3, S4, S5⟩ := fsum_swap q0 q1 r0 r1 n'.toNat
      rw [tn] at S1 S2 S3 S4 S5
      have ea : a'.fmod b' = a' % b' := Int.fmod_eq_emod_of_nonneg _ (by omega)
      have ec : c'.fmod b' = c' % b' := Int.fmod_eq_emod_of_nonneg _ (by omega)
      have bqa : Bd 60 (a' % b') := Bd.of q0 (by omega)
      have bqc : Bd 60 (c' % b') := Bd.of r0 (by omega)
      have bh : Bd 300 (a' % b' * n' + c' % b') := by walk_at "bdm"
      have eh : (a' % b' * n' + c' % b').fmod b' = (a' % b' * n' + c' % b') % b' := Int.fmod_eq_emod_of_nonneg _ (by omega)
      have h0 : 0 ≤ (a' % b' * n' + c' % b') % b' := Int.emod_nonneg _ (by omega)
      have h1 : (a' % b' * n' + c' % b') % b' < b' := Int.emod_lt_of_pos _ hb
      walk_at "rd"
      rw [ea, ec]
      walk_at "rd"
      rw [eh]
      walk_at "rd"
      refine ⟨⟨rfl, _, _, _, _, _, _, rfl, S3, by omega, q0, fun hh => ?_, by omega, by omega, b1, h0, by omega, ?_⟩, ?_⟩
      · apply Classical.byContradiction
        intro z
        have := S5 (by omega)
        omega
      · rw [← inv, S1, S2]
        generalize fsum (a' % b') b' ((a' % b' * n' + c' % b') % b') ((a' % b' * n' + c' % b') / b').toNat = X
        generalize n' * (n' - 1) / 2 * (a' / b') = Y
        generalize n' * (c' / b') = Z
        omega
      · show (a' % b').toNat < b'.toNat
        omega
    · walk_at "rd"
      have : n' = 0 := by omega
      subst this
      have e : fsum b a c n.toNat = fd := by
        rw [← inv]
        simp [fsum]
      rw [e] at k
      exact k
theorem sc__law_next : FnScope ["_law_source", "_law_many", "_law_found", "_law_prime", "_law_figure"] ["_law_source", "_law_many"] (defScope s__law_next) := ⟨rfl, rfl, rfl, by decide +kernel, rfl, by decide +kernel, by decide +kernel⟩
theorem ok__law_next {P : Program} {w : World} {K : PySem.W.Frag} {mg : Str → Option Value} {base : Heap} (T : Txt K mg) : ∃ fd, FnOk P w K mg base CX0 1 (He.ga K "_law_next") fd ["_law_source", "_law_many"] sp__law_next ∧ Binds K fd ["_law_source", "_law_many"] [] ∧ FunD K d__law_next.name d__law_next.qual d__law_next.params d__law_next.body d__law_next.scope (d__law_next.dvs K) (d__law_next.kws K) (He.fAd K d__law_next.at_) fd := by
  obtain ⟨fd, F⟩ := T.f__law_next
  refine ⟨fd, ?_, F.bindsN fun _ _ _ _ _ _ us hl => match us, hl with | [_, _], _ => rfl, F⟩
  refine F.ok (k := 0) sc__law_next (fun vs H Q E h => ?_) (fun cdv A outer s H vs Q E hr h => ?_)
  · obtain ⟨a, n, m, rfl, _⟩ := h
    rfl
  · obtain ⟨a, n, m, rfl, ⟨s0, s1, s2, e, h1, h2, h3, h4⟩, hn, m0, m1, k⟩ := h
    refine ⟨_, PSs.nox (pss_cons (ps_if (pt_cmpR op_gt (pe_ix ix_list (pv 0) pe_int (fun _ _ => rfl)) pe_int (nomark _)) (pss_cons (ps_set (i := 2) sc__law_next.nd rfl (Or.inl rfl) (pe_op op_modN (pe_ix ix_list (pv 0) pe_int (fun _ _ => rfl)) (pv 1)))
      (pss_cons (ps_asg (pe_op op_fdivW (pe_ix ix_list (pv 0) pe_int (fun _ _ => rfl)) (pv 1)) (pg_sub (pv 0) pe_int set_list))
      (pss_one (ps_ret (pv 2))))) pss_nil)
      (pss_cons (ps_asg (pe_op op_add (pe_ix ix_list (pv 0) pe_int (fun _ _ => rfl)) pe_int) (pg_sub (pv 0) pe_int set_list))
      (pss_cons (ps_set (i := 3) sc__law_next.nd rfl (Or.inl rfl) (pe_ix ix_list (pe_lst (pa_cons pe_int (pa_cons pe_int (pa_cons pe_int (pa_cons pe_int (pa_cons pe_int (pa_cons pe_int (pa_cons pe_int pa_nil)))))))) (pe_op op_modN (pe_ix ix_list (pv 0) pe_int (fun _ _ => rfl)) pe_int) (fun _ _ => rfl)))
      (pss_cons (ps_set (i := 4) sc__law_next.nd rfl (Or.inl rfl) (pe_op op_modN (pe_op op_pow (pe_op op_add (pe_op op_add (pe_ix ix_list (pv 0) pe_int (fun _ _ => rfl)) (pe_op op_mulW pe_int (pe_ix ix_list (pv 0) pe_int (fun _ _ => rfl)))) pe_int) pe_int) (pv 3)))
      (pss_cons (ps_set (i := 4) sc__law_next.nd rfl (Or.inl rfl) (pe_op op_modN (pe_op op_mulW (pe_op op_add (pv 4) (pe_ix ix_list (pv 0) pe_int (fun _ _ => rfl))) (pe_op op_add (pe_op op_fdivW (pv 4) pe_int) pe_int)) (pv 3)))
      (pss_one (ps_ret (pe_op op_modN (pe_op op_fdivW (pv 4) pe_int) (pv 1))))))))), ?_⟩
    show (_ : TS) _ [some (.ref a), some (.int m), none, none, none] _
    try dsimp only [nk]
    have bm : Bd 4000 m := Bd.of (by omega) m1
    walk_at "rd"
    refine x_ite (p := 0 < s0) (fun c => ?_) (fun c => ?_)
    · walk_at "rd"
      refine x_setL e (show ixN 3 0 = some 0 from rfl) ?_
      walk_at "rd"
      exact k _ _ (Int.fmod_nonneg_of_pos _ m0) (Int.fmod_lt_of_pos _ m0) ⟨_, _, _, upd_same, h1, h2, h3, by omega⟩ but_set
    · walk_at "rd"
      refine x_setL e (show ixN 3 2 = some 2 from rfl) ?_
      have e1 : ((upd H a (.lst ([V.int s0, V.int s1, V.int s2].set 2 (V.int (s2 + 1)))) : Hp) a) = some (.lst [V.int s0, V.int s1, V.int (s2 + 1)]) := upd_same
      have b1 : But a H (upd H a (.lst ([V.int s0, V.int s1, V.int s2].set 2 (V.int (s2 + 1))))) := but_set
      generalize upd H a (.lst ([V.int s0, V.int s1, V.int s2].set 2 (V.int (s2 + 1)))) = H1 at *
      have h3' : 0 ≤ s2 + 1 := by omega
      have h4' : s2 + 1 < 2 ^ 51 := by omega
      have h5' : s2 + 1 ≤ n + 1 := by omega
      generalize s2 + 1 = z2 at *
      have bz : Bd 51 z2 := Bd.of h3' h4'
      walk_at "rd"
      intro p hp
      walk_at "rd"
      have g0 : 0 ≤ z2.fmod 7 := Int.fmod_nonneg_of_pos _ (by decide)
      have g1 : z2.fmod 7 < 7 := Int.fmod_lt_of_pos _ (by decide)
      obtain ⟨v, hv, ev⟩ := atI_in (xs := [V.int 2147483647, V.int 2147483629, V.int 2147483587, V.int 2147483579, V.int 2147483563, V.int 2147483549, V.int 2147483543]) g0 (by show z2.fmod 7 < 7; exact g1)
      obtain ⟨pr, rfl, p0, p1⟩ : ∃ pr : Int, v = V.int pr ∧ 2147483543 ≤ pr ∧ pr ≤ 2147483647 := by
        simp only [List.mem_cons, List.not_mem_nil, or_false] at hv
        rcases hv with rfl | rfl | rfl | rfl | rfl | rfl | rfl <;> exact ⟨_, rfl, by decide, by decide⟩
      refine x_ixL (sql upd_same) ev ?_
      have e2 := at_upd (o := HO.lst [V.int s0, V.int s1, V.int z2]) (u := HO.lst [V.int 2147483647, V.int 2147483629, V.int 2147483587, V.int 2147483579, V.int 2147483563, V.int 2147483549, V.int 2147483543]) hp e1
      have b2 : But a H (upd H1 p (.lst [V.int 2147483647, V.int 2147483629, V.int 2147483587, V.int 2147483579, V.int 2147483563, V.int 2147483549, V.int 2147483543])) := b1.trans (But.of (same_upd hp))
      generalize upd H1 p (.lst [V.int 2147483647, V.int 2147483629, V.int 2147483587, V.int 2147483579, V.int 2147483563, V.int 2147483549, V.int 2147483543]) = H2 at *
      walk_at "rd"
      refine x_rI (C := CPow) ⟨by decide, by decide, by omega⟩ ?_
      walk_at "rd"
      have q0 := Int.fmod_nonneg_of_pos ((s1 + 7919 * z2 + 1) ^ Int.toNat 5) (show 0 < pr by omega)
      have q1 := Int.fmod_lt_of_pos ((s1 + 7919 * z2 + 1) ^ Int.toNat 5) (show 0 < pr by omega)
      generalize ((s1 + 7919 * z2 + 1) ^ Int.toNat 5).fmod pr = fg at *
      have bf : Bd 40 fg := Bd.of q0 (by omega)
      walk_at "rd"
      exact k _ _ (Int.fmod_nonneg_of_pos _ m0) (Int.fmod_lt_of_pos _ m0) ⟨_, _, _, e2, h1, h2, h3', h5'⟩ b2
theorem sc__law_source_of : FnScope ["_law_cell"] ["_law_cell"] (defScope s__law_source_of) := ⟨rfl, rfl, rfl, by decide +kernel, rfl, by decide +kernel, by decide +kernel⟩
theorem ok__law_source_of {P : Program} {w : World} {K : PySem.W.Frag} {mg : Str → Option Value} {base : Heap} (T : Txt K mg) : ∃ fd, FnOk P w K mg base CX0 1 (He.ga K "_law_source_of") fd ["_law_cell"] sp__law_source_of ∧ Binds K fd ["_law_cell"] [] ∧ FunD K d__law_source_of.name d__law_source_of.qual d__law_source_of.params d__law_source_of.body d__law_source_of.scope (d__law_source_of.dvs K) (d__law_source_of.kws K) (He.fAd K d__law_source_of.at_) fd := by
  obtain ⟨fd, F⟩ := T.f__law_source_of
  refine ⟨fd, ?_, F.bindsN fun _ _ _ _ _ _ us hl => match us, hl with | [_], _ => rfl, F⟩
  refine F.ok (k := 0) sc__law_source_of (fun vs H Q E h => ?_) (fun cdv A outer s H vs Q E hr h => ?_)
  · obtain ⟨c, rfl, _⟩ := h
    rfl
  · obtain ⟨c, rfl, k⟩ := h
    refine ⟨_, PSs.nox (pss_one (ps_ret (pe_lst (pa_cons (pe_op op_mul (pv 0) (pe_callTy cl_int (by rfl) T.z_int (by decide +kernel) (pa_cons (pe_cmpR op_ge (pv 0) (pe_pw (r := 1000000000000000000) ⟨by decide, by decide, by decide⟩ (by decide +kernel)) (nomark _)) pa_nil))) (pa_cons (pe_op op_modN (pv 0) pe_int) (pa_cons pe_int pa_nil)))))), ?_⟩
    show (_ : TS) _ [some (.int c)] _
    try dsimp only [nk]
    walk_at "rd"
    refine x_rI (C := CMul) (Or.inr (by split <;> decide)) ?_
    walk_at "rd"
    intro q hq
    exact k q _ hq (same_upd hq) ⟨_, _, _, upd_same, Int.fmod_nonneg_of_pos _ (by decide), Int.fmod_lt_of_pos _ (by decide), by decide, by decide⟩
theorem sc_is_from : FnScope ["low", "thing"] ["low", "thing"] (defScope s_is_from) := ⟨rfl, rfl, rfl, by decide +kernel, rfl, by decide +kernel, by decide +kernel⟩
theorem ok_is_from {P : Program} {w : World} {K : PySem.W.Frag} {mg : Str → Option Value} {base : Heap} (T : Txt K mg) : ∃ fd, FnOk P w K mg base CX0 2 (He.ga K "is_from") fd ["low", "thing"] sp_is_from ∧ Binds K fd ["low", "thing"] [] ∧ FunD K d_is_from.name d_is_from.qual d_is_from.params d_is_from.body d_is_from.scope (d_is_from.dvs K) (d_is_from.kws K) (He.fAd K d_is_from.at_) fd := by
  obtain ⟨fd_is_whole, G_is_whole, b_is_whole, F_is_whole⟩ := ok_is_whole (P := P) (w := w) (base := base) T
  obtain ⟨fd, F⟩ := T.f_is_from
  refine ⟨fd, ?_, F.bindsN fun _ _ _ _ _ _ us hl => match us, hl with | [_, _], _ => rfl, F⟩
  refine F.ok (k := 1) sc_is_from (fun vs H Q E h => ?_) (fun cdv A outer s H vs Q E hr h => ?_)
  · obtain ⟨l, n, rfl, _⟩ := h
    rfl
  · obtain ⟨l, n, rfl, k⟩ := h
    refine ⟨_, PSs.nox (pss_one (ps_ret (pe_and (pe_call G_is_whole (hr.mono (by decide)) rfl T.g_is_whole T.k_is_whole b_is_whole .nil pass0 (pa_cons (pv 1) pa_nil)) (pe_one (pe_cmpR op_ge (pv 1) (pv 0) (nomark _)))))), ?_⟩
    show (_ : TS) _ [some (.int l), some (.int n)] _
    try dsimp only [nk]
    walk_at "rd"
    exact k
theorem sc__law_some : FnScope ["_law_first", "_law_less", "_law_more", "_law_many", "_law_this", "_law_that", "_law_begins", "_law_ends_here"] ["_law_first", "_law_less", "_law_more", "_law_many"] (defScope s__law_some) := ⟨rfl, rfl, rfl, by decide +kernel, rfl, by decide +kernel, by decide +kernel⟩
theorem ok__law_some {P : Program} {w : World} {K : PySem.W.Frag} {mg : Str → Option Value} {base : Heap} (T : Txt K mg) : ∃ fd, FnOk P w K mg base CX0 2 (He.ga K "_law_some") fd ["_law_first", "_law_less", "_law_more", "_law_many"] sp__law_some ∧ Binds K fd ["_law_first", "_law_less", "_law_more", "_law_many"] [] ∧ FunD K d__law_some.name d__law_some.qual d__law_some.params d__law_some.body d__law_some.scope (d__law_some.dvs K) (d__law_some.kws K) (He.fAd K d__law_some.at_) fd := by
  obtain ⟨fd__law_floors, G__law_floors, b__law_floors, F__law_floors⟩ := ok__law_floors (P := P) (w := w) (base := base) T
  obtain ⟨fd, F⟩ := T.f__law_some
  refine ⟨fd, ?_, F.bindsN fun _ _ _ _ _ _ us hl => match us, hl with | [_, _, _, _], _ => rfl, F⟩
  refine F.ok (k := 1) sc__law_some (fun vs H Q E h => ?_) (fun cdv A outer s H vs Q E hr h => ?_)
  · obtain ⟨f, s, t, n, rfl, _⟩ := h
    rfl
  · obtain ⟨f, s, t, n, rfl, f1, f2, s0, s1, t1, n0, n1, k⟩ := h
    refine ⟨_, PSs.nox (pss_cons (ps_par (i := 4) (j := 5) (by rfl) sc__law_some.nd rfl rfl (by decide) rfl rfl (pa_cons (pe_op op_add (pv 0) (pv 1)) (pa_cons (pe_op op_add (pv 0) (pv 2)) pa_nil)) (by rfl))
      (pss_cons (ps_set (i := 6) sc__law_some.nd rfl (Or.inl rfl) (pe_op op_sub (pe_call G__law_floors (hr.mono (by decide)) rfl T.g__law_floors T.k__law_floors b__law_floors .nil pass0 (pa_cons (pv 3) (pa_cons (pv 4) (pa_cons (pv 0) (pa_cons pe_int pa_nil))))) (pe_call G__law_floors (hr.mono (by decide)) rfl T.g__law_floors T.k__law_floors b__law_floors .nil pass0 (pa_cons (pv 3) (pa_cons (pv 5) (pa_cons (pv 0) (pa_cons pe_int pa_nil)))))))
      (pss_cons (ps_set (i := 7) sc__law_some.nd rfl (Or.inl rfl) (pe_op op_sub (pe_call G__law_floors (hr.mono (by decide)) rfl T.g__law_floors T.k__law_floors b__law_floors .nil pass0 (pa_cons (pv 3) (pa_cons (pv 4) (pa_cons (pv 0) (pa_cons (pe_op op_sub (pe_op op_add (pv 0) (pv 4)) pe_int) pa_nil))))) (pe_call G__law_floors (hr.mono (by decide)) rfl T.g__law_floors T.k__law_floors b__law_floors .nil pass0 (pa_cons (pv 3) (pa_cons (pv 5) (pa_cons (pv 0) (pa_cons (pe_op op_sub (pe_op op_add (pv 0) (pv 5)) pe_int) pa_nil)))))))
      (pss_one (ps_ret (pe_or (pe_cmpR op_gt (pv 6) pe_int (nomark _)) (pe_one (pe_cmpR op_gt (pv 7) pe_int (nomark _))))))))), ?_⟩
    show (_ : TS) _ [some (.int f), some (.int s), some (.int t), some (.int n), none, none, none, none] _
    try dsimp only [nk]
    walk_at "rd"
    refine y_floors n0 n1 (by omega) (by omega) (by omega) (by omega) (by decide) (by decide) ?_
    walk_at "rd"
    refine y_floors n0 n1 (by omega) (by omega) (by omega) (by omega) (by decide) (by decide) ?_
    walk_at "rd"
    refine y_floors n0 n1 (by omega) (by omega) (by omega) (by omega) (by omega) (by omega) ?_
    walk_at "rd"
    refine y_floors n0 n1 (by omega) (by omega) (by omega) (by omega) (by omega) (by omega) ?_
    have G := gp_sums f1 (show 0 < f + s by omega) (show f + s ≤ f + t by omega) n.toNat
    rw [show ((n.toNat : Nat) : Int) = n by omega] at G
    walk_at "rd"
    refine x_ite (fun g => ?_) (fun g => ?_)
    · walk_at "rd"
      exact k true ⟨fun _ => G.mpr (.inl (by omega)), fun _ => rfl⟩
    · walk_at "rd"
      refine k _ ?_
      rw [decide_eq_true_iff, G]
      omega
theorem sc__law_one : FnScope ["_law_source", "_law_some_here"] ["_law_source", "_law_some_here"] (defScope s__law_one) := ⟨rfl, rfl, rfl, by decide +kernel, rfl, by decide +kernel, by decide +kernel⟩
theorem ok__law_one {P : Program} {w : World} {K : PySem.W.Frag} {mg : Str → Option Value} {base : Heap} (T : Txt K mg) : ∃ fd, FnOk P w K mg base CX0 2 (He.ga K "_law_one") fd ["_law_source", "_law_some_here"] sp__law_one ∧ Binds K fd ["_law_source", "_law_some_here"] [] ∧ FunD K d__law_one.name d__law_one.qual d__law_one.params d__law_one.body d__law_one.scope (d__law_one.dvs K) (d__law_one.kws K) (He.fAd K d__law_one.at_) fd := by
  obtain ⟨fd__law_next, G__law_next, b__law_next, F__law_next⟩ := ok__law_next (P := P) (w := w) (base := base) T
  obtain ⟨fd, F⟩ := T.f__law_one
  refine ⟨fd, ?_, F.bindsN fun _ _ _ _ _ _ us hl => match us, hl with | [_, _], _ => rfl, F⟩
  refine F.ok (k := 1) sc__law_one (fun vs H Q E h => ?_) (fun cdv A outer s H vs Q E hr h => ?_)
  · obtain ⟨a, p, n, xs, rfl, _⟩ := h
    rfl
  · obtain ⟨a, p, n, xs, rfl, hs, hn, hp, hne, h0, h1, k⟩ := h
    refine ⟨_, PSs.nox (pss_one (ps_ret (pe_ix ix_list (pv 1) (pe_call G__law_next (hr.mono (by decide)) rfl T.g__law_next T.k__law_next b__law_next .nil pass0 (pa_cons (pv 0) (pa_cons (pe_callB cl_len (by rfl) T.z_len (by decide +kernel) (pa_cons (pv 1) pa_nil)) pa_nil))) (fun _ _ => rfl)))), ?_⟩
    show (_ : TS) _ [some (.ref a), some (.ref p)] _
    try dsimp only [nk]
    walk_at "rd"
    refine y_next hs hn (by omega) (by have : (xs.length : Int) < 1000 := by omega
                                       omega) fun r H' r0 r1 hs' b => ?_
    obtain ⟨v, hv, ev⟩ := atI_in r0 r1
    refine x_ixL (sql (b _ _ hne hp)) ev ?_
    exact k v H' hv hs' b
theorem sc_check_length : FnScope ["length"] ["length"] (defScope s_check_length) := ⟨rfl, rfl, rfl, by decide +kernel, rfl, by decide +kernel, by decide +kernel⟩
theorem ok_check_length {P : Program} {w : World} {K : PySem.W.Frag} {mg : Str → Option Value} {base : Heap} (T : Txt K mg) : ∃ fd, FnOk P w K mg base CX0 3 (He.ga K "check_length") fd ["length"] sp_check_length ∧ Binds K fd ["length"] [] ∧ FunD K d_check_length.name d_check_length.qual d_check_length.params d_check_length.body d_check_length.scope (d_check_length.dvs K) (d_check_length.kws K) (He.fAd K d_check_length.at_) fd := by
  obtain ⟨fd_is_from, G_is_from, b_is_from, F_is_from⟩ := ok_is_from (P := P) (w := w) (base := base) T
  obtain ⟨fd, F⟩ := T.f_check_length
  refine ⟨fd, ?_, F.bindsN fun _ _ _ _ _ _ us hl => match us, hl with | [_], _ => rfl, F⟩
  refine F.ok (k := 2) sc_check_length (fun vs H Q E h => ?_) (fun cdv A outer s H vs Q E hr h => ?_)
  · obtain ⟨n, rfl, _⟩ := h
    rfl
  · obtain ⟨n, rfl, h0, k⟩ := h
    refine ⟨_, PSs.nox (pss_one (ps_if (pt_not (pt_val (pe_call G_is_from (hr.mono (by decide)) rfl T.g_is_from T.k_is_from b_is_from .nil pass0 (pa_cons pe_int (pa_cons (pv 0) pa_nil))))) (pss_one ps_never) pss_nil)), ?_⟩
    show (_ : TS) _ [some (.int n)] _
    try dsimp only [nk]
    walk_at "rd"
    exact k
theorem sc_check_turn : FnScope ["turn"] ["turn"] (defScope s_check_turn) := ⟨rfl, rfl, rfl, by decide +kernel, rfl, by decide +kernel, by decide +kernel⟩
theorem ok_check_turn {P : Program} {w : World} {K : PySem.W.Frag} {mg : Str → Option Value} {base : Heap} (T : Txt K mg) : ∃ fd, FnOk P w K mg base CX0 3 (He.ga K "check_turn") fd ["turn"] sp_check_turn ∧ Binds K fd ["turn"] [] ∧ FunD K d_check_turn.name d_check_turn.qual d_check_turn.params d_check_turn.body d_check_turn.scope (d_check_turn.dvs K) (d_check_turn.kws K) (He.fAd K d_check_turn.at_) fd := by
  obtain ⟨fd_is_from, G_is_from, b_is_from, F_is_from⟩ := ok_is_from (P := P) (w := w) (base := base) T
  obtain ⟨fd, F⟩ := T.f_check_turn
  refine ⟨fd, ?_, F.bindsN fun _ _ _ _ _ _ us hl => match us, hl with | [_], _ => rfl, F⟩
  refine F.ok (k := 2) sc_check_turn (fun vs H Q E h => ?_) (fun cdv A outer s H vs Q E hr h => ?_)
  · obtain ⟨n, rfl, _⟩ := h
    rfl
  · obtain ⟨n, rfl, h0, k⟩ := h
    refine ⟨_, PSs.nox (pss_one (ps_if (pt_not (pt_val (pe_call G_is_from (hr.mono (by decide)) rfl T.g_is_from T.k_is_from b_is_from .nil pass0 (pa_cons pe_int (pa_cons (pv 0) pa_nil))))) (pss_one ps_never) pss_nil)), ?_⟩
    show (_ : TS) _ [some (.int n)] _
    try dsimp only [nk]
    walk_at "rd"
    exact k
theorem sc_check_cell : FnScope ["cell"] ["cell"] (defScope s_check_cell) := ⟨rfl, rfl, rfl, by decide +kernel, rfl, by decide +kernel, by decide +kernel⟩
theorem ok_check_cell {P : Program} {w : World} {K : PySem.W.Frag} {mg : Str → Option Value} {base : Heap} (T : Txt K mg) : ∃ fd, FnOk P w K mg base CX0 3 (He.ga K "check_cell") fd ["cell"] sp_check_cell ∧ Binds K fd ["cell"] [] ∧ FunD K d_check_cell.name d_check_cell.qual d_check_cell.params d_check_cell.body d_check_cell.scope (d_check_cell.dvs K) (d_check_cell.kws K) (He.fAd K d_check_cell.at_) fd := by
  obtain ⟨fd_is_from, G_is_from, b_is_from, F_is_from⟩ := ok_is_from (P := P) (w := w) (base := base) T
  obtain ⟨fd, F⟩ := T.f_check_cell
  refine ⟨fd, ?_, F.bindsN fun _ _ _ _ _ _ us hl => match us, hl with | [_], _ => rfl, F⟩
  refine F.ok (k := 2) sc_check_cell (fun vs H Q E h => ?_) (fun cdv A outer s H vs Q E hr h => ?_)
  · obtain ⟨n, rfl, _⟩ := h
    rfl
  · obtain ⟨n, rfl, h0, k⟩ := h
    refine ⟨_, PSs.nox (pss_one (ps_if (pt_not (pt_val (pe_call G_is_from (hr.mono (by decide)) rfl T.g_is_from T.k_is_from b_is_from .nil pass0 (pa_cons pe_int (pa_cons (pv 0) pa_nil))))) (pss_one ps_never) pss_nil)), ?_⟩
    show (_ : TS) _ [some (.int n)] _
    try dsimp only [nk]
    walk_at "rd"
    exact k
theorem sc_Drumu__initu_ : FnScope ["self", "first", "step"] ["self", "first", "step"] (defScope s_Drumu__initu_) := ⟨rfl, rfl, rfl, by decide +kernel, rfl, by decide +kernel, by decide +kernel⟩
theorem ok_Drumu__initu_ {P : Program} {w : World} {K : PySem.W.Frag} {mg : Str → Option Value} {base : Heap} (T : Txt K mg) : ∃ fd, FnOk P w K mg base CX0 3 (He.ma K (He.ga K "Drum") "__init__") fd ["self", "first", "step"] (sp_Drumu__initu_ K) ∧ Binds K fd ["self", "first", "step"] [] ∧ FunD K d_Drumu__initu_.name d_Drumu__initu_.qual d_Drumu__initu_.params d_Drumu__initu_.body d_Drumu__initu_.scope (d_Drumu__initu_.dvs K) (d_Drumu__initu_.kws K) (He.fAd K d_Drumu__initu_.at_) fd := by
  obtain ⟨fd_is_from, G_is_from, b_is_from, F_is_from⟩ := ok_is_from (P := P) (w := w) (base := base) T
  obtain ⟨fd, F⟩ := T.f_Drumu__initu_
  refine ⟨fd, ?_, F.bindsN fun _ _ _ _ _ _ us hl => match us, hl with | [_, _, _], _ => rfl, F⟩
  obtain ⟨tg, hc_TOO_GREAT⟩ := T.c_TOO_GREAT
  refine F.ok (k := 2) sc_Drumu__initu_ (fun vs H Q E h => ?_) (fun cdv A outer s H vs Q E hr h => ?_)
  · obtain ⟨p, dx, f, s, rfl, _⟩ := h
    rfl
  · obtain ⟨p, dx, f, s, rfl, hp, f1, f2, s1, s2, k⟩ := h
    refine ⟨_, PSs.nox (pss_cons (ps_if (PW.pt (pw_or (pt_not (pt_val (pe_call G_is_from (hr.mono (by decide)) rfl T.g_is_from T.k_is_from b_is_from .nil pass0 (pa_cons pe_int (pa_cons (pv 1) pa_nil))))) (pw_or1 (pt_cmpR op_ge (pv 1) (pe_glob (v := .int 1000000000000000) rfl hc_TOO_GREAT ⟨_, rfl⟩) (nomark _))))) (pss_one ps_never) pss_nil)
      (pss_cons (ps_if (PW.pt (pw_or (pt_not (pt_val (pe_call G_is_from (hr.mono (by decide)) rfl T.g_is_from T.k_is_from b_is_from .nil pass0 (pa_cons pe_int (pa_cons (pv 2) pa_nil))))) (pw_or1 (pt_cmpR op_ge (pv 2) (pe_glob (v := .int 1000000000000000) rfl hc_TOO_GREAT ⟨_, rfl⟩) (nomark _))))) (pss_one ps_never) pss_nil)
      (pss_cons (ps_fld (pv 0) (pv 1) rfl)
      (pss_one (ps_fld (pv 0) (pv 2) rfl))))), ?_⟩
    show (_ : TS) _ [some (.ref p), some (.int f), some (.int s)] _
    try dsimp only [nk]
    walk_at "rd"
    refine ⟨_, rfl, _, rfl, p, _, dx, _, rfl, hp, T.cl_Drum, T.n_first, by decide, ?_⟩
    refine ⟨_, rfl, _, rfl, p, _, dx, _, rfl, upd_same, T.cl_Drum, T.n_step, (by show 1 < 1000; decide), ?_⟩
    rw [upd_upd]
    exact k
theorem sc_Drum_size : FnScope ["self", "turn"] ["self", "turn"] (defScope s_Drum_size) := ⟨rfl, rfl, rfl, by decide +kernel, rfl, by decide +kernel, by decide +kernel⟩
theorem ok_Drum_size {P : Program} {w : World} {K : PySem.W.Frag} {mg : Str → Option Value} {base : Heap} (T : Txt K mg) : ∃ fd, FnOk P w K mg base CX0 4 (He.ma K (He.ga K "Drum") "size") fd ["self", "turn"] (sp_Drum_size K) ∧ Binds K fd ["self", "turn"] [] ∧ FunD K d_Drum_size.name d_Drum_size.qual d_Drum_size.params d_Drum_size.body d_Drum_size.scope (d_Drum_size.dvs K) (d_Drum_size.kws K) (He.fAd K d_Drum_size.at_) fd := by
  obtain ⟨fd_check_turn, G_check_turn, b_check_turn, F_check_turn⟩ := ok_check_turn (P := P) (w := w) (base := base) T
  obtain ⟨fd, F⟩ := T.f_Drum_size
  refine ⟨fd, ?_, F.bindsN fun _ _ _ _ _ _ us hl => match us, hl with | [_, _], _ => rfl, F⟩
  refine F.ok (k := 3) sc_Drum_size (fun vs H Q E h => ?_) (fun cdv A outer s H vs Q E hr h => ?_)
  · obtain ⟨p, f, s, t, rfl, _⟩ := h
    rfl
  · obtain ⟨p, f, s, t, rfl, d, h0, h1, k⟩ := h
    refine ⟨_, PSs.nox (pss_cons (ps_expr (pe_call G_check_turn (hr.mono (by decide)) rfl T.g_check_turn T.k_check_turn b_check_turn .nil pass0 (pa_cons (pv 1) pa_nil)))
      (pss_one (ps_ret (pe_op op_add (pe_fld (pv 0) rfl) (pe_op op_mulW (pv 1) (pe_fld (pv 0) rfl)))))), ?_⟩
    show (_ : TS) _ [some (.ref p), some (.int t)] _
    try dsimp only [nk]
    have bt : Bd 1000 t := Bd.of h0 h1
    walk_at "rd"
    exact k
theorem sc_Drum_begins : FnScope ["self", "turn"] ["self", "turn"] (defScope s_Drum_begins) := ⟨rfl, rfl, rfl, by decide +kernel, rfl, by decide +kernel, by decide +kernel⟩
theorem ok_Drum_begins {P : Program} {w : World} {K : PySem.W.Frag} {mg : Str → Option Value} {base : Heap} (T : Txt K mg) : ∃ fd, FnOk P w K mg base CX0 4 (He.ma K (He.ga K "Drum") "begins") fd ["self", "turn"] (sp_Drum_begins K) ∧ Binds K fd ["self", "turn"] [] ∧ FunD K d_Drum_begins.name d_Drum_begins.qual d_Drum_begins.params d_Drum_begins.body d_Drum_begins.scope (d_Drum_begins.dvs K) (d_Drum_begins.kws K) (He.fAd K d_Drum_begins.at_) fd := by
  obtain ⟨fd_check_turn, G_check_turn, b_check_turn, F_check_turn⟩ := ok_check_turn (P := P) (w := w) (base := base) T
  obtain ⟨fd, F⟩ := T.f_Drum_begins
  refine ⟨fd, ?_, F.bindsN fun _ _ _ _ _ _ us hl => match us, hl with | [_, _], _ => rfl, F⟩
  refine F.ok (k := 3) sc_Drum_begins (fun vs H Q E h => ?_) (fun cdv A outer s H vs Q E hr h => ?_)
  · obtain ⟨p, f, s, t, rfl, _⟩ := h
    rfl
  · obtain ⟨p, f, s, t, rfl, d, h0, h1, k⟩ := h
    refine ⟨_, PSs.nox (pss_cons (ps_expr (pe_call G_check_turn (hr.mono (by decide)) rfl T.g_check_turn T.k_check_turn b_check_turn .nil pass0 (pa_cons (pv 1) pa_nil)))
      (pss_one (ps_ret (pe_op op_add (pe_op op_mulW (pv 1) (pe_fld (pv 0) rfl)) (pe_op op_mulW (pe_fld (pv 0) rfl) (pe_op op_fdivW (pe_op op_mulW (pv 1) (pe_op op_sub (pv 1) pe_int)) pe_int)))))), ?_⟩
    show (_ : TS) _ [some (.ref p), some (.int t)] _
    try dsimp only [nk]
    have bt : Bd 1000 t := Bd.of h0 h1
    walk_at "rd"
    exact k
theorem sc__met : FnScope ["drum", "place", "size", "turn", "begin", "many"] ["drum", "place", "size", "turn"] (defScope s__met) := ⟨rfl, rfl, rfl, by decide +kernel, rfl, by decide +kernel, by decide +kernel⟩
theorem ok__met {P : Program} {w : World} {K : PySem.W.Frag} {mg : Str → Option Value} {base : Heap} (T : Txt K mg) : ∃ fd, FnOk P w K mg base CX0 5 (He.ga K "_met") fd ["drum", "place", "size", "turn"] (sp__met K) ∧ Binds K fd ["drum", "place", "size", "turn"] [] ∧ FunD K d__met.name d__met.qual d__met.params d__met.body d__met.scope (d__met.dvs K) (d__met.kws K) (He.fAd K d__met.at_) fd := by
  obtain ⟨fd_Drum_size, G_Drum_size, b_Drum_size, F_Drum_size⟩ := ok_Drum_size (P := P) (w := w) (base := base) T
  obtain ⟨fd_Drum_begins, G_Drum_begins, b_Drum_begins, F_Drum_begins⟩ := ok_Drum_begins (P := P) (w := w) (base := base) T
  obtain ⟨fd, F⟩ := T.f__met
  refine ⟨fd, ?_, F.bindsN fun _ _ _ _ _ _ us hl => match us, hl with | [_, _, _, _], _ => rfl, F⟩
  refine F.ok (k := 4) sc__met (fun vs H Q E h => ?_) (fun cdv A outer s H vs Q E hr h => ?_)
  · obtain ⟨p, f, s, l, z, t, rfl, _⟩ := h
    rfl
  · obtain ⟨p, f, s, l, z, t, rfl, d, h0, h1, h2, h3, h4, k⟩ := h
    refine ⟨_, PSs.nox (pss_cons (ps_set (i := 4) sc__met.nd rfl (Or.inl rfl) (pe_meth (pv 0) T.cl_Drum T.m_Drum_begins G_Drum_begins (hr.mono (by decide)) b_Drum_begins .nil pass0 (pa_cons (pv 3) pa_nil)))
      (pss_cons (ps_set (i := 5) sc__met.nd rfl (Or.inl rfl) (pe_meth (pv 0) T.cl_Drum T.m_Drum_size G_Drum_size (hr.mono (by decide)) b_Drum_size .nil pass0 (pa_cons (pv 3) pa_nil)))
      (pss_one (ps_ret (pe_tup (pa_cons (pe_op op_add (pv 4) (pe_op op_fdivW (pe_op op_mulW (pv 1) (pv 5)) (pv 2))) (pa_cons (pe_op op_add (pv 4) (pe_op op_fdivW (pe_op op_sub (pe_op op_mulW (pe_op op_add (pv 1) pe_int) (pv 5)) pe_int) (pv 2))) pa_nil))))))), ?_⟩
    show (_ : TS) _ [some (.ref p), some (.int l), some (.int z), some (.int t), none, none] _
    try dsimp only [nk]
    have bl : Bd 1000 l := Bd.of h0 (by omega)
    have bz : Bd 1000 z := Bd.of (by omega) h2
    have bt : Bd 1000 t := Bd.of h3 h4
    walk_at "rd"
    intro q hq
    exact k q _ (same_upd hq) upd_same
theorem sc_Drum_where : FnScope ["self", "cell", "turn"] ["self", "cell"] (defScope s_Drum_where) := ⟨rfl, rfl, rfl, by decide +kernel, rfl, by decide +kernel, by decide +kernel⟩
theorem ok_Drum_where {P : Program} {w : World} {K : PySem.W.Frag} {mg : Str → Option Value} {base : Heap} (T : Txt K mg) : ∃ fd, FnOk P w K mg base CX0 5 (He.ma K (He.ga K "Drum") "where") fd ["self", "cell"] (sp_Drum_where K) ∧ Binds K fd ["self", "cell"] [] ∧ FunD K d_Drum_where.name d_Drum_where.qual d_Drum_where.params d_Drum_where.body d_Drum_where.scope (d_Drum_where.dvs K) (d_Drum_where.kws K) (He.fAd K d_Drum_where.at_) fd := by
  obtain ⟨fd_Drum_size, G_Drum_size, b_Drum_size, F_Drum_size⟩ := ok_Drum_size (P := P) (w := w) (base := base) T
  obtain ⟨fd_Drum_begins, G_Drum_begins, b_Drum_begins, F_Drum_begins⟩ := ok_Drum_begins (P := P) (w := w) (base := base) T
  obtain ⟨fd_Drumu_turn_of, G_Drumu_turn_of, b_Drumu_turn_of, F_Drumu_turn_of⟩ := ok_Drumu_turn_of (P := P) (w := w) (base := base) T
  obtain ⟨fd_check_cell, G_check_cell, b_check_cell, F_check_cell⟩ := ok_check_cell (P := P) (w := w) (base := base) T
  obtain ⟨fd, F⟩ := T.f_Drum_where
  refine ⟨fd, ?_, F.bindsN fun _ _ _ _ _ _ us hl => match us, hl with | [_, _], _ => rfl, F⟩
  refine F.ok (k := 4) sc_Drum_where (fun vs H Q E h => ?_) (fun cdv A outer s H vs Q E hr h => ?_)
  · obtain ⟨p, f, s, c, rfl, _⟩ := h
    rfl
  · obtain ⟨p, f, s, c, rfl, d, h0, h1, k⟩ := h
    refine ⟨_, PSs.nox (pss_cons (ps_expr (pe_call G_check_cell (hr.mono (by decide)) rfl T.g_check_cell T.k_check_cell b_check_cell .nil pass0 (pa_cons (pv 1) pa_nil)))
      (pss_cons (ps_set (i := 2) sc_Drum_where.nd rfl (Or.inl rfl) (pe_meth (pv 0) T.cl_Drum T.m_Drumu_turn_of G_Drumu_turn_of (hr.mono (by decide)) b_Drumu_turn_of .nil pass0 (pa_cons (pv 1) pa_nil)))
      (pss_one (ps_ret (pe_tup (pa_cons (pv 2) (pa_cons (pe_op op_sub (pv 1) (pe_meth (pv 0) T.cl_Drum T.m_Drum_begins G_Drum_begins (hr.mono (by decide)) b_Drum_begins .nil pass0 (pa_cons (pv 2) pa_nil))) (pa_cons (pe_meth (pv 0) T.cl_Drum T.m_Drum_size G_Drum_size (hr.mono (by decide)) b_Drum_size .nil pass0 (pa_cons (pv 2) pa_nil)) pa_nil)))))))), ?_⟩
    show (_ : TS) _ [some (.ref p), some (.int c), none] _
    try dsimp only [nk]
    have t0 := tOf_nn d.f1 d.s0 h0
    have t1 := tOf_lec d.f1 d.s0 h0
    walk_at "rd"
    intro q hq
    exact k q _ (same_upd hq) upd_same
theorem sc_beneath : FnScope ["drum", "cell", "turn", "place", "size"] ["drum", "cell"] (defScope s_beneath) := ⟨rfl, rfl, rfl, by decide +kernel, rfl, by decide +kernel, by decide +kernel⟩
theorem ok_beneath {P : Program} {w : World} {K : PySem.W.Frag} {mg : Str → Option Value} {base : Heap} (T : Txt K mg) : ∃ fd, FnOk P w K mg base CX0 6 (He.ga K "beneath") fd ["drum", "cell"] (sp_beneath K) ∧ Binds K fd ["drum", "cell"] [] ∧ FunD K d_beneath.name d_beneath.qual d_beneath.params d_beneath.body d_beneath.scope (d_beneath.dvs K) (d_beneath.kws K) (He.fAd K d_beneath.at_) fd := by
  obtain ⟨fd__met, G__met, b__met, F__met⟩ := ok__met (P := P) (w := w) (base := base) T
  obtain ⟨fd_Drum_where, G_Drum_where, b_Drum_where, F_Drum_where⟩ := ok_Drum_where (P := P) (w := w) (base := base) T
  obtain ⟨fd, F⟩ := T.f_beneath
  refine ⟨fd, ?_, F.bindsN fun _ _ _ _ _ _ us hl => match us, hl with | [_, _], _ => rfl, F⟩
  refine F.ok (k := 5) sc_beneath (fun vs H Q E h => ?_) (fun cdv A outer s H vs Q E hr h => ?_)
  · obtain ⟨p, f, s, c, rfl, _⟩ := h
    rfl
  · obtain ⟨p, f, s, c, rfl, d, h0, h1, k1, k2⟩ := h
    refine ⟨_, PSs.nox (pss_cons (ps_asg (pe_meth (pv 0) T.cl_Drum T.m_Drum_where G_Drum_where (hr.mono (by decide)) b_Drum_where .nil pass0 (pa_cons (pv 1) pa_nil)) (pg_tup rfl (pgs_cons (pg_name (i := 2) sc_beneath.nd rfl (Or.inl rfl)) (pgs_cons (pg_name (i := 3) sc_beneath.nd rfl (Or.inl rfl)) (pgs_cons (pg_name (i := 4) sc_beneath.nd rfl (Or.inl rfl)) pgs_nil)))))
      (pss_cons (ps_if (pt_cmpR op_eq (pv 2) pe_int (nomark _)) (pss_one (ps_ret pe_non)) pss_nil)
      (pss_one (ps_ret (pe_call G__met (hr.mono (by decide)) rfl T.g__met T.k__met b__met .nil pass0 (pa_cons (pv 0) (pa_cons (pv 3) (pa_cons (pv 4) (pa_cons (pe_op op_sub (pv 2) pe_int) pa_nil))))))))), ?_⟩
    show (_ : TS) _ [some (.ref p), some (.int c), none, none, none] _
    try dsimp only [nk]
    have g0 := tOf_nn d.f1 d.s0 h0
    have g1 := tOf_lec d.f1 d.s0 h0
    have g2 := plc_nn d.f1 d.s0 h0
    have g3 := plc_lt d.f1 d.s0 h0
    have bz : Bd 1000 (siz f s c) := by
      have bt : Bd 700 (tOf f s c) := Bd.of g0 (by omega)
      unfold siz; walk_at "bdm"
    have bz' := bz.lt
    walk_at "rd"
    refine y_where d h0 (by omega) fun q H1 s1 e1 => ?_
    walk_at "rd"
    refine x_ite (fun e => ?_) (fun e => ?_)
    · walk_at "rd"
      exact k1 e _ s1
    · walk_at "rd"
      refine y_met (d.same s1) g2 g3 bz' (by omega) (by omega) fun q2 H2 s2 e2 => ?_
      exact k2 e q2 H2 (s1.trans s2) e2
theorem sc__least_above : FnScope ["low", "high", "whole", "top", "bottom"] ["low", "high"] (defScope s__least_above) := ⟨rfl, rfl, rfl, by decide +kernel, rfl, by decide +kernel, by decide +kernel⟩
theorem sc__least_from : FnScope ["low", "high", "whole", "top", "bottom"] ["low", "high"] (defScope s__least_from) := ⟨rfl, rfl, rfl, by decide +kernel, rfl, by decide +kernel, by decide +kernel⟩
theorem rec_la {P : Program} {w : World} {K : PySem.W.Frag} {mg : Str → Option Value} {base : Heap} (T : Txt K mg) {fd__least_above fd__least_from : FuncData} (FA : FunD K d__least_above.name d__least_above.qual d__least_above.params d__least_above.body d__least_above.scope (d__least_above.dvs K) (d__least_above.kws K) (He.fAd K d__least_above.at_) fd__least_above)
    (b__least_from : Binds K fd__least_from ["low", "high"] []) (n : Nat) (G__least_from : FnOk P w K mg base CX0 (2 * n + 3) (He.ga K "_least_from") fd__least_from ["low", "high"] (spLF (n + 1))) :
    FnOk P w K mg base CX0 (2 * n + 4) (He.ga K "_least_above") fd__least_above ["low", "high"] (spLA (n + 1)) := by
  obtain ⟨fd__turned, G__turned, b__turned, F__turned⟩ := ok__turned (P := P) (w := w) (base := base) T
  refine FA.ok (k := 2 * n + 3) sc__least_above (fun vs H Q E h => ?_) (fun cdv A outer s H vs Q E hr h => ?_)
  · obtain ⟨p, q, l0, l1, h0, h1, rfl, _⟩ := h
    rfl
  · obtain ⟨p, q, l0, l1, h0, h1, rfl, ep, eq, va, hn, k⟩ := h
    refine ⟨_, PSs.nox (pss_cons (ps_set (i := 2) sc__least_above.nd rfl (Or.inl rfl) (pe_op op_fdivW (pe_ix ix_tup (pv 0) pe_int (fun _ _ => rfl)) (pe_ix ix_tup (pv 0) pe_int (fun _ _ => rfl))))
      (pss_cons (ps_if (pt_cmpR op_le (pe_op op_mulW (pe_op op_add (pv 2) pe_int) (pe_ix ix_tup (pv 1) pe_int (fun _ _ => rfl))) (pe_ix ix_tup (pv 1) pe_int (fun _ _ => rfl)) (nomark _)) (pss_one (ps_ret (pe_tup (pa_cons (pe_op op_add (pv 2) pe_int) (pa_cons pe_int pa_nil))))) pss_nil)
      (pss_cons (ps_asg (pe_call G__least_from (hr.mono (by omega)) rfl T.g__least_from T.k__least_from b__least_from .nil pass0 (pa_cons (pe_call G__turned (hr.mono (by omega)) rfl T.g__turned T.k__turned b__turned .nil pass0 (pa_cons (pv 1) (pa_cons (pv 2) pa_nil))) (pa_cons (pe_call G__turned (hr.mono (by omega)) rfl T.g__turned T.k__turned b__turned .nil pass0 (pa_cons (pv 0) (pa_cons (pv 2) pa_nil))) pa_nil))) (pg_tup rfl (pgs_cons (pg_name (i := 3) sc__least_above.nd rfl (Or.inl rfl)) (pgs_cons (pg_name (i := 4) sc__least_above.nd rfl (Or.inl rfl)) pgs_nil))))
      (pss_one (ps_ret (pe_tup (pa_cons (pe_op op_add (pe_op op_mulW (pv 2) (pv 3)) (pv 4)) (pa_cons (pv 3) pa_nil)))))))), ?_⟩
    show (_ : TS) _ [some (.ref p), some (.ref q), none, none, none] _
    try dsimp only [nk]
    have bl0 : Bd 60 l0 := Bd.of va.kl0 (by have := va.b0; omega)
    have bl1 : Bd 60 l1 := Bd.of (by have := va.kl1; omega) (by have := va.b1; omega)
    have bh0 : Bd 60 h0 := Bd.of (by have := va.kh0; omega) (by have := va.b2; omega)
    have bh1 : Bd 60 h1 := Bd.of (by have := va.kh1; omega) (by have := va.b3; omega)
    have kl0 := va.kl0
    have kl1 := va.kl1
    have w0 : 0 ≤ l0 / l1 := Int.ediv_nonneg va.kl0 (by omega)
    have w1 : l0 / l1 * l1 ≤ l0 := Int.ediv_mul_le _ (by omega)
    have w2 : l0 < (l0 / l1 + 1) * l1 := Int.lt_ediv_add_one_mul_self _ (by omega)
    have w3 : l0 / l1 ≤ l0 := Int.ediv_le_self _ va.kl0
    have bw : Bd 60 (l0 / l1) := Bd.of w0 (by have := va.b0; omega)
    walk_at "rd"
    refine x_ite (fun c => ?_) (fun c => ?_)
    · walk_at "rd"
      intro r hr'
      exact k _ _ r _ (la_ret va w1 w2 w0 c) (same_upd hr') upd_same
    · have vf := la_vf va w1 w2 w0 c
      walk_at "rd"
      refine y_turned eq (bw.mono (by decide)) (bh1.mono (by decide)) fun q1 H1 s1 e1 => ?_
      walk_at "rd"
      refine y_turned (s1 _ _ ep) (bw.mono (by decide)) (bl1.mono (by decide)) fun q2 H2 s2 e2 => ?_
      walk_at "rd"
      refine y_lf (by omega) (s2 _ _ e1) e2 vf (fun w' a1 a2 a3 => halves vf c a2 a3 hn) fun t b r H3 lf s3 e3 => ?_
      obtain ⟨t0, t1, b1⟩ := lf.top vf
      have bt : Bd 60 t := Bd.of (by omega) (by have := va.b3; omega)
      walk_at "rd"
      intro r4 hr4
      exact k _ _ r4 _ (la_of va w1 w0 lf t0) (((s1.trans s2).trans s3).trans (same_upd hr4)) upd_same
theorem rec_lf {P : Program} {w : World} {K : PySem.W.Frag} {mg : Str → Option Value} {base : Heap} (T : Txt K mg) {fd__least_above fd__least_from : FuncData} (FF : FunD K d__least_from.name d__least_from.qual d__least_from.params d__least_from.body d__least_from.scope (d__least_from.dvs K) (d__least_from.kws K) (He.fAd K d__least_from.at_) fd__least_from)
    (b__least_above : Binds K fd__least_above ["low", "high"] []) (n : Nat) (G__least_above : FnOk P w K mg base CX0 (2 * n + 2) (He.ga K "_least_above") fd__least_above ["low", "high"] (spLA n)) :
    FnOk P w K mg base CX0 (2 * n + 3) (He.ga K "_least_from") fd__least_from ["low", "high"] (spLF (n + 1)) := by
  obtain ⟨fd__turned, G__turned, b__turned, F__turned⟩ := ok__turned (P := P) (w := w) (base := base) T
  refine FF.ok (k := 2 * n + 2) sc__least_from (fun vs H Q E h => ?_) (fun cdv A outer s H vs Q E hr h => ?_)
  · obtain ⟨_, p, q, l0, l1, h0, h1, rfl, _⟩ := h
    rfl
  · obtain ⟨_, p, q, l0, l1, h0, h1, rfl, ep, eq, vf, hn, k⟩ := h
    refine ⟨_, PSs.nox (pss_cons (ps_set (i := 2) sc__least_from.nd rfl (Or.inl rfl) (pe_un un_neg (pe_op op_fdivW (pe_un un_neg (pe_ix ix_tup (pv 0) pe_int (fun _ _ => rfl))) (pe_ix ix_tup (pv 0) pe_int (fun _ _ => rfl)))))
      (pss_cons (ps_if (pt_cmpR op_lt (pe_op op_mulW (pv 2) (pe_ix ix_tup (pv 1) pe_int (fun _ _ => rfl))) (pe_ix ix_tup (pv 1) pe_int (fun _ _ => rfl)) (nomark _)) (pss_one (ps_ret (pe_tup (pa_cons (pv 2) (pa_cons pe_int pa_nil))))) pss_nil)
      (pss_cons (ps_asg (pe_call G__least_above (hr.mono (by omega)) rfl T.g__least_above T.k__least_above b__least_above .nil pass0 (pa_cons (pe_call G__turned (hr.mono (by omega)) rfl T.g__turned T.k__turned b__turned .nil pass0 (pa_cons (pv 1) (pa_cons (pe_op op_sub (pv 2) pe_int) pa_nil))) (pa_cons (pe_call G__turned (hr.mono (by omega)) rfl T.g__turned T.k__turned b__turned .nil pass0 (pa_cons (pv 0) (pa_cons (pe_op op_sub (pv 2) pe_int) pa_nil))) pa_nil))) (pg_tup rfl (pgs_cons (pg_name (i := 3) sc__least_from.nd rfl (Or.inl rfl)) (pgs_cons (pg_name (i := 4) sc__least_from.nd rfl (Or.inl rfl)) pgs_nil))))
      (pss_one (ps_ret (pe_tup (pa_cons (pe_op op_add (pe_op op_mulW (pe_op op_sub (pv 2) pe_int) (pv 3)) (pv 4)) (pa_cons (pv 3) pa_nil)))))))), ?_⟩
    show (_ : TS) _ [some (.ref p), some (.ref q), none, none, none] _
    try dsimp only [nk]
    have kl0 := vf.kl0
    have kl1 := vf.kl1
    have bl0 : Bd 60 l0 := Bd.of (by omega) (by have := vf.b0; omega)
    have bl1 : Bd 60 l1 := Bd.of (by omega) (by have := vf.b1; omega)
    have bh0 : Bd 60 h0 := Bd.of (by have := vf.kh0; omega) (by have := vf.b2; omega)
    have bh1 : Bd 60 h1 := Bd.of vf.kh1 (by have := vf.b3; omega)
    have bn : Bd 60 (-l0) := by unfold Bd at *; omega
    have w1 : (-l0) / l1 * l1 ≤ -l0 := Int.ediv_mul_le _ (by omega)
    have w2 : -l0 < ((-l0) / l1 + 1) * l1 := Int.lt_ediv_add_one_mul_self _ (by omega)
    have wl : (-l0) / l1 ≤ -1 := by
      apply Classical.byContradiction
      intro c
      have := mul_nn (show 0 ≤ (-l0) / l1 by omega) (show 0 ≤ l1 by omega)
      omega
    have wh : -l0 ≤ (-l0) / l1 := by
      apply Classical.byContradiction
      intro c
      have : ((-l0) / l1 + 1) * l1 ≤ (-l0) * l1 := Int.mul_le_mul_of_nonneg_right (by omega) (by omega)
      have : l0 * 1 ≤ l0 * l1 := Int.mul_le_mul_of_nonneg_left (by omega) (by omega)
      have : -l0 * l1 = -(l0 * l1) := by grind
      omega
    walk_at "rd"
    have e : 0 - (-l0) / l1 = -((-l0) / l1) := by omega
    first | rw [e] | skip
    generalize hw : -((-l0) / l1) = w at *
    have hw' : (-l0) / l1 = -w := by omega
    have w1' : -w * l1 ≤ -l0 := by rw [← hw']; exact w1
    have w2' : -l0 < (-w + 1) * l1 := by rw [← hw']; exact w2
    rw [hw'] at wl wh
    have v0 : 1 ≤ w := by omega
    have v1 : (w - 1) * l1 < l0 := by
      have : (-w + 1) * l1 = -((w - 1) * l1) := by grind
      omega
    have v2 : l0 ≤ w * l1 := by
      have : -w * l1 = -(w * l1) := by grind
      omega
    have bw : Bd 60 w := Bd.of (by omega) (by have := vf.b0; omega)
    have bw1 : Bd 60 (w - 1) := Bd.of (by omega) (by have := vf.b0; omega)
    walk_at "rd"
    refine x_ite (fun c => ?_) (fun c => ?_)
    · walk_at "rd"
      intro r hr'
      exact k _ _ r _ (lf_ret vf v1 v2 v0 c) (same_upd hr') upd_same
    · have va := lf_va vf v1 v2 v0 c
      walk_at "rd"
      refine y_turned eq (bw1.mono (by decide)) (bh1.mono (by decide)) fun q1 H1 s1 e1 => ?_
      walk_at "rd"
      refine y_turned (s1 _ _ ep) (bw1.mono (by decide)) (bl1.mono (by decide)) fun q2 H2 s2 e2 => ?_
      walk_at "rd"
      refine y_la (s2 _ _ e1) e2 va (by have := hn w v1 v2 c; have : (2 : Int) ^ (n + 1) = 2 ^ n * 2 := Int.pow_succ ..; omega) fun t b r H3 la s3 e3 => ?_
      obtain ⟨t0, t1, b1⟩ := la.top va
      have bt : Bd 60 t := Bd.of (by omega) (by have := vf.b1; omega)
      walk_at "rd"
      intro r4 hr4
      exact k _ _ r4 _ (lf_of vf v1 v0 la t0) (((s1.trans s2).trans s3).trans (same_upd hr4)) upd_same
theorem rec_0 {P : Program} {w : World} {K : PySem.W.Frag} {mg : Str → Option Value} {base : Heap} {fd__least_above : FuncData} (FA : FunD K d__least_above.name d__least_above.qual d__least_above.params d__least_above.body d__least_above.scope (d__least_above.dvs K) (d__least_above.kws K) (He.fAd K d__least_above.at_) fd__least_above) :
    FnOk P w K mg base CX0 2 (He.ga K "_least_above") fd__least_above ["low", "high"] (spLA 0) := by
  have no : ∀ {vs : List V} {H : Hp} {Q : VK} {E : XK}, ¬ spLA 0 vs H Q E := fun {vs H Q E} h => by
    obtain ⟨p, q, l0, l1, h0, h1, rfl, ep, eq, va, hn, k⟩ := h
    have := va.kl1
    have := va.kh1
    have : (2 : Int) ^ 0 = 1 := rfl
    omega
  exact FA.ok (k := 1) sc__least_above (fun vs H Q E h => (no h).elim) (fun cdv A outer s H vs Q E hr h => (no h).elim)
theorem rec_both {P : Program} {w : World} {K : PySem.W.Frag} {mg : Str → Option Value} {base : Heap} (T : Txt K mg) {fd__least_above fd__least_from : FuncData}
    (FA : FunD K d__least_above.name d__least_above.qual d__least_above.params d__least_above.body d__least_above.scope (d__least_above.dvs K) (d__least_above.kws K) (He.fAd K d__least_above.at_) fd__least_above) (FF : FunD K d__least_from.name d__least_from.qual d__least_from.params d__least_from.body d__least_from.scope (d__least_from.dvs K) (d__least_from.kws K) (He.fAd K d__least_from.at_) fd__least_from)
    (ba : Binds K fd__least_above ["low", "high"] []) (bf : Binds K fd__least_from ["low", "high"] []) : ∀ n : Nat, FnOk P w K mg base CX0 (2 * n + 2) (He.ga K "_least_above") fd__least_above ["low", "high"] (spLA n)
  | 0 => rec_0 FA
  | n + 1 => rec_la T FA bf n (rec_lf T FF ba n (rec_both T FA FF ba bf n))
theorem ok__least_above {P : Program} {w : World} {K : PySem.W.Frag} {mg : Str → Option Value} {base : Heap} (T : Txt K mg) : ∃ fd, FnOk P w K mg base CX0 118 (He.ga K "_least_above") fd ["low", "high"] sp__least_above ∧ Binds K fd ["low", "high"] [] ∧ FunD K d__least_above.name d__least_above.qual d__least_above.params d__least_above.body d__least_above.scope (d__least_above.dvs K) (d__least_above.kws K) (He.fAd K d__least_above.at_) fd := by
  obtain ⟨fa, FA⟩ := T.f__least_above
  obtain ⟨ff, FF⟩ := T.f__least_from
  have ba : Binds K fa ["low", "high"] [] := FA.bindsN fun _ _ _ _ _ _ us hl => match us, hl with | [_, _], _ => rfl
  have bf : Binds K ff ["low", "high"] [] := FF.bindsN fun _ _ _ _ _ _ us hl => match us, hl with | [_, _], _ => rfl
  exact ⟨fa, rec_both T FA FF ba bf 58, ba, FA⟩
theorem ok__least_from {P : Program} {w : World} {K : PySem.W.Frag} {mg : Str → Option Value} {base : Heap} (T : Txt K mg) : ∃ fd, FnOk P w K mg base CX0 117 (He.ga K "_least_from") fd ["low", "high"] sp__least_from ∧ Binds K fd ["low", "high"] [] ∧ FunD K d__least_from.name d__least_from.qual d__least_from.params d__least_from.body d__least_from.scope (d__least_from.dvs K) (d__least_from.kws K) (He.fAd K d__least_from.at_) fd := by
  obtain ⟨fa, FA⟩ := T.f__least_above
  obtain ⟨ff, FF⟩ := T.f__least_from
  have ba : Binds K fa ["low", "high"] [] := FA.bindsN fun _ _ _ _ _ _ us hl => match us, hl with | [_, _], _ => rfl
  have bf : Binds K ff ["low", "high"] [] := FF.bindsN fun _ _ _ _ _ _ us hl => match us, hl with | [_, _], _ => rfl
  exact ⟨ff, rec_lf T FF ba 57 (rec_both T FA FF ba bf 57), bf, FF⟩

theorem sc_parted : FnScope ["one", "other", "first", "low", "high", "begins", "ends"] ["one", "other"] (defScope s_parted) := ⟨rfl, rfl, rfl, by decide +kernel, rfl, by decide +kernel, by decide +kernel⟩
theorem ok_parted {P : Program} {w : World} {K : PySem.W.Frag} {mg : Str → Option Value} {base : Heap} (T : Txt K mg) : ∃ fd, FnOk P w K mg base CX0 119 (He.ga K "parted") fd ["one", "other"] (sp_parted K) ∧ Binds K fd ["one", "other"] [] ∧ FunD K d_parted.name d_parted.qual d_parted.params d_parted.body d_parted.scope (d_parted.dvs K) (d_parted.kws K) (He.fAd K d_parted.at_) fd := by
  obtain ⟨fd__least_from, G__least_from, b__least_from, F__least_from⟩ := ok__least_from (P := P) (w := w) (base := base) T
  obtain ⟨fd__least_above, G__least_above, b__least_above, F__least_above⟩ := ok__least_above (P := P) (w := w) (base := base) T
  obtain ⟨fd_Drum_size, G_Drum_size, b_Drum_size, F_Drum_size⟩ := ok_Drum_size (P := P) (w := w) (base := base) T
  obtain ⟨fd_Drum_first, G_Drum_first, b_Drum_first, F_Drum_first⟩ := ok_Drum_first (P := P) (w := w) (base := base) T
  obtain ⟨fd_Drumu__equ_, G_Drumu__equ_, b_Drumu__equ_, F_Drumu__equ_⟩ := ok_Drumu__equ_ (P := P) (w := w) (base := base) T
  obtain ⟨fd__check_drum, G__check_drum, b__check_drum, F__check_drum⟩ := ok__check_drum (P := P) (w := w) (base := base) T
  obtain ⟨fd, F⟩ := T.f_parted
  refine ⟨fd, ?_, F.bindsN fun _ _ _ _ _ _ us hl => match us, hl with | [_, _], _ => rfl, F⟩
  refine F.ok (k := 118) sc_parted (fun vs H Q E h => ?_) (fun cdv A outer s H vs Q E hr h => ?_)
  · obtain ⟨p, q, f, s, g, t, rfl, _⟩ := h
    rfl
  · obtain ⟨p, q, f, s, g, t, rfl, d, d', k⟩ := h
    refine ⟨_, PSs.nox (pss_cons (ps_expr (pe_call G__check_drum (hr.mono (by decide)) rfl T.g__check_drum T.k__check_drum b__check_drum .nil pass0 (pa_cons pe_str (pa_cons (pv 0) pa_nil))))
      (pss_cons (ps_expr (pe_call G__check_drum (hr.mono (by decide)) rfl T.g__check_drum T.k__check_drum b__check_drum .nil pass0 (pa_cons pe_str (pa_cons (pv 1) pa_nil))))
      (pss_cons (ps_if (pt_cmpR (op_eqI G_Drumu__equ_ T.m_Drumu__equ_ b_Drumu__equ_ (hr.mono (by decide))) (pv 0) (pv 1) (nomark _)) (pss_one (ps_ret pe_non)) pss_nil)
      (pss_cons (ps_set (i := 2) sc_parted.nd rfl (Or.inl rfl) (pe_meth0 (pv 0) T.cl_Drum T.m_Drum_first G_Drum_first (hr.mono (by decide)) b_Drum_first .nil pass0))
      (pss_cons (ps_if (pt_cmpR op_ne (pv 2) (pe_meth0 (pv 1) T.cl_Drum T.m_Drum_first G_Drum_first (hr.mono (by decide)) b_Drum_first .nil pass0) (nomark _)) (pss_one (ps_ret (pe_callB (cl_min rfl) (by rfl) T.z_min (by decide +kernel) (pa_cons (pv 2) (pa_cons (pe_meth0 (pv 1) T.cl_Drum T.m_Drum_first G_Drum_first (hr.mono (by decide)) b_Drum_first .nil pass0) pa_nil))))) pss_nil)
      (pss_cons (ps_asg (pe_callB cr_sorted (by rfl) T.z_sorted (by decide +kernel) (pa_cons (pe_lst (pa_cons (pe_meth (pv 0) T.cl_Drum T.m_Drum_size G_Drum_size (hr.mono (by decide)) b_Drum_size .nil pass0 (pa_cons pe_int pa_nil)) (pa_cons (pe_meth (pv 1) T.cl_Drum T.m_Drum_size G_Drum_size (hr.mono (by decide)) b_Drum_size .nil pass0 (pa_cons pe_int pa_nil)) pa_nil))) pa_nil)) (pg_unl rfl (pgs_cons (pg_name (i := 3) sc_parted.nd rfl (Or.inl rfl)) (pgs_cons (pg_name (i := 4) sc_parted.nd rfl (Or.inl rfl)) pgs_nil))))
      (pss_cons (ps_set (i := 5) sc_parted.nd rfl (Or.inl rfl) (pe_ix ix_tup (pe_call G__least_above (hr.mono (by decide)) rfl T.g__least_above T.k__least_above b__least_above .nil pass0 (pa_cons (pe_tup (pa_cons (pv 2) (pa_cons (pv 4) pa_nil))) (pa_cons (pe_tup (pa_cons (pv 2) (pa_cons (pv 3) pa_nil))) pa_nil))) pe_int (fun _ _ => rfl)))
      (pss_cons (ps_set (i := 6) sc_parted.nd rfl (Or.inl rfl) (pe_ix ix_tup (pe_call G__least_from (hr.mono (by decide)) rfl T.g__least_from T.k__least_from b__least_from .nil pass0 (pa_cons (pe_tup (pa_cons (pv 2) (pa_cons (pv 4) pa_nil))) (pa_cons (pe_tup (pa_cons (pv 2) (pa_cons (pv 3) pa_nil))) pa_nil))) pe_int (fun _ _ => rfl)))
      (pss_one (ps_ret (pe_op op_add (pv 2) (pe_callB (cl_min rfl) (by rfl) T.z_min (by decide +kernel) (pa_cons (pv 5) (pa_cons (pe_op op_sub (pv 6) pe_int) pa_nil)))))))))))))), ?_⟩
    show (_ : TS) _ [some (.ref p), some (.ref q), none, none, none, none, none] _
    try dsimp only [nk]
    have f1 := d.f1
    have f2 := d.f2
    have s0 := d.s0
    have s2 := d.s2
    have t0 := d'.s0
    have t2 := d'.s2
    walk_at "rd"
    refine y_cdrum d ?_
    walk_at "rd"
    refine y_cdrum d' ?_
    walk_at "rd"
    refine x_eqI d d' (y_deq d d' ⟨_, rfl, ?_⟩)
    walk_at "rd"
    refine x_ite (p := f = g ∧ s = t) (fun c => ?_) (fun c => ?_)
    · walk_at "rd"
      exact k _ _ (.inl ⟨c.1, c.2, rfl⟩) fun _ _ z => z
    · walk_at "rd"
      refine x_iteN (p := f = g) (fun e => ?_) (fun e => ?_)
      · walk_at "rd"
        exact k _ _ (.inr (.inl ⟨e, rfl⟩)) fun _ _ z => z
      · have ne : s ≠ t := fun z => c ⟨e, z⟩
        subst e
        walk_at "rd"
        intro p1 hp1
        walk_at "rd"
        refine x_sort2 upd_same fun r1 hr1 => ?_
        walk_at "rd"
        refine x_unl upd_same rfl ?_
        have e1 : min (f + 1 * s) (f + 1 * t) = f + min s t := by omega
        have e2 : max (f + 1 * s) (f + 1 * t) = f + max s t := by omega
        rw [e1, e2]
        have m0 : 0 ≤ min s t := by omega
        have m1 : min s t < max s t := by omega
        have m2 : max s t < 10 ^ 15 := by omega
        generalize hlo : min s t = lo at *
        generalize hhi : max s t = hi at *
        have va := va_part f1 m0 m1 (by omega) (by omega)
        have vf := vf_part f1 m0 m1 (by omega) (by omega)
        walk_at "rd"
        intro p2 hp2
        walk_at "rd"
        intro p3 hp3
        walk_at "rd"
        refine y_la (at_upd hp3 upd_same) upd_same va (by omega) fun tt b r2 H2 la s2' e3 => ?_
        walk_at "rd"
        intro p4 hp4
        walk_at "rd"
        intro p5 hp5
        walk_at "rd"
        refine y_lf (by decide) (at_upd hp5 upd_same) upd_same vf (fun w a1 a2 a3 => ?_) fun u e r3 H3 lf s3' e4 => ?_
        · have : w = 1 := by
            have : w < 2 := by
              apply Classical.byContradiction
              intro c
              have : 1 * (f + hi) ≤ (w - 1) * (f + hi) := Int.mul_le_mul_of_nonneg_right (by omega) (by omega)
              omega
            have : 0 < w := by
              apply Classical.byContradiction
              intro c
              have : w * (f + hi) ≤ 0 * (f + hi) := Int.mul_le_mul_of_nonneg_right (by omega) (by omega)
              omega
            omega
          subst this
          omega
        · walk_at "rd"
          exact k _ _ (.inr (.inr ⟨rfl, ne, min b (e - 1), by rw [hlo, hhi]; exact ⟨tt, b, u, e, la, lf, rfl⟩, rfl⟩)) ((((((same_upd hp1).trans (same_upd hr1)).trans (same_upd hp2)).trans (same_upd hp3)).trans s2').trans (((same_upd hp4).trans (same_upd hp5)).trans s3'))
theorem sc_alike : FnScope ["one", "other", "length", "cell"] ["one", "other", "length"] (defScope s_alike) := ⟨rfl, rfl, rfl, by decide +kernel, rfl, by decide +kernel, by decide +kernel⟩
theorem ok_alike {P : Program} {w : World} {K : PySem.W.Frag} {mg : Str → Option Value} {base : Heap} (T : Txt K mg) : ∃ fd, FnOk P w K mg base CX0 120 (He.ga K "alike") fd ["one", "other", "length"] (sp_alike K) ∧ Binds K fd ["one", "other", "length"] [] ∧ FunD K d_alike.name d_alike.qual d_alike.params d_alike.body d_alike.scope (d_alike.dvs K) (d_alike.kws K) (He.fAd K d_alike.at_) fd := by
  obtain ⟨fd_check_length, G_check_length, b_check_length, F_check_length⟩ := ok_check_length (P := P) (w := w) (base := base) T
  obtain ⟨fd_parted, G_parted, b_parted, F_parted⟩ := ok_parted (P := P) (w := w) (base := base) T
  obtain ⟨fd, F⟩ := T.f_alike
  refine ⟨fd, ?_, F.bindsN fun _ _ _ _ _ _ us hl => match us, hl with | [_, _, _], _ => rfl, F⟩
  refine F.ok (k := 119) sc_alike (fun vs H Q E h => ?_) (fun cdv A outer s H vs Q E hr h => ?_)
  · obtain ⟨p, q, f, s, g, t, n, rfl, _⟩ := h
    rfl
  · obtain ⟨p, q, f, s, g, t, n, rfl, d, d', n1, k⟩ := h
    refine ⟨_, PSs.nox (pss_cons (ps_set (i := 3) sc_alike.nd rfl (Or.inl rfl) (pe_call G_parted (hr.mono (by decide)) rfl T.g_parted T.k_parted b_parted .nil pass0 (pa_cons (pv 0) (pa_cons (pv 1) pa_nil))))
      (pss_cons (ps_expr (pe_call G_check_length (hr.mono (by decide)) rfl T.g_check_length T.k_check_length b_check_length .nil pass0 (pa_cons (pv 2) pa_nil)))
      (pss_one (ps_ret (pe_or (pe_cmpR cp_isN (pv 3) pe_non (nomark _)) (pe_one (pe_cmpR op_ge (pv 3) (pv 2) (nomark _)))))))), ?_⟩
    show (_ : TS) _ [some (.ref p), some (.ref q), some (.int n), none] _
    try dsimp only [nk]
    walk_at "rd"
    refine y_parted d d' fun v H' pv sm => ?_
    walk_at "rd"
    rcases pv with ⟨e1, e2, rfl⟩ | ⟨e1, rfl⟩ | ⟨e1, e2, c, pc, rfl⟩
    · walk_at "rd"
      exact k _ _ _ (.inl ⟨e1, e2, rfl⟩) (fun _ h => nomatch h) (fun _ => rfl) sm
    · walk_at "rd"
      exact k _ _ _ (.inr (.inl ⟨e1, rfl⟩)) (fun c h => by cases h; rfl) (fun h => nomatch h) sm
    · walk_at "rd"
      exact k _ _ _ (.inr (.inr ⟨e1, e2, c, pc, rfl⟩)) (fun c h => by cases h; rfl) (fun h => nomatch h) sm
abbrev spLaw := sp_law
theorem sc_law : FnScope ["_law_script", "_law_cell", "_law_source", "_law_unit", "_law_first", "_law_step", "_law_that", "_law_low", "_law_high", "_law_middle_here", "_law_place", "_law_this", "_law_two", "_law_found"] ["_law_script"] (defScope s_law) := ⟨rfl, rfl, rfl, by decide +kernel, rfl, by decide +kernel, by decide +kernel⟩
theorem ok_law {P : Program} {w : World} {K : PySem.W.Frag} {mg : Str → Option Value} {base : Heap} (T : Txt K mg) {f : Addr} {fd : FuncData} (F : FunD K d_law.name d_law.qual d_law.params d_law.body d_law.scope (d_law.dvs K) (d_law.kws K) f fd) : FnOk P w K mg base CX0 121 f fd ["_law_script"] (spLaw K) := by
  obtain ⟨fd__law_cell_at, G__law_cell_at, b__law_cell_at, F__law_cell_at⟩ := ok__law_cell_at (P := P) (w := w) (base := base) T
  obtain ⟨fd_alike, G_alike, b_alike, F_alike⟩ := ok_alike (P := P) (w := w) (base := base) T
  obtain ⟨fd_beneath, G_beneath, b_beneath, F_beneath⟩ := ok_beneath (P := P) (w := w) (base := base) T
  obtain ⟨fd_parted, G_parted, b_parted, F_parted⟩ := ok_parted (P := P) (w := w) (base := base) T
  obtain ⟨fd_Drumu__initu_, G_Drumu__initu_, b_Drumu__initu_, F_Drumu__initu_⟩ := ok_Drumu__initu_ (P := P) (w := w) (base := base) T
  obtain ⟨fd__law_some, G__law_some, b__law_some, F__law_some⟩ := ok__law_some (P := P) (w := w) (base := base) T
  obtain ⟨fd__law_next, G__law_next, b__law_next, F__law_next⟩ := ok__law_next (P := P) (w := w) (base := base) T
  obtain ⟨fd__law_one, G__law_one, b__law_one, F__law_one⟩ := ok__law_one (P := P) (w := w) (base := base) T
  obtain ⟨fd__law_source_of, G__law_source_of, b__law_source_of, F__law_source_of⟩ := ok__law_source_of (P := P) (w := w) (base := base) T
  have kr_alike : KBn K fd_alike ["one", "other", "length"] 0 ["length", "other", "one"] (fun us ws => us ++ ws.reverse) (fun vs zs => vs ++ zs.reverse) := kbn F_alike (fun _ _ _ _ _ _ us ws h1 h2 => match us, ws, h1, h2 with | [], [_, _, _], _, _ => rfl) rel_rev
  refine F.ok (k := 120) sc_law (fun vs H Q E h => ?_) (fun cdv A outer s H vs Q E hr h => ?_)
  · obtain ⟨a, ns, rfl, _⟩ := h
    rfl
  · obtain ⟨a, ns, rfl, hS, hlen, k⟩ := h
    refine ⟨_, PSs.nox (pss_cons (ps_for PassesOwn.never rfl (pi_list (pe_op op_cat (pe_lst (pa_cons (pe_call G__law_cell_at (hr.mono (by decide)) rfl T.g__law_cell_at T.k__law_cell_at b__law_cell_at .nil pass0 (pa_cons (pv 0) (pa_cons pe_int pa_nil))) pa_nil)) (pe_slice sl_list (pv 0) (po_some pe_int) (po_some pe_int)))) (pg_name (i := 1) sc_law.nd rfl (Or.inl rfl)) (pss_cons (ps_set (i := 2) sc_law.nd rfl (Or.inl rfl) (pe_call G__law_source_of (hr.mono (by decide)) rfl T.g__law_source_of T.k__law_source_of b__law_source_of .nil pass0 (pa_cons (pv 1) pa_nil)))
      (pss_cons (ps_set (i := 3) sc_law.nd rfl (Or.inl rfl) (pe_call G__law_one (hr.mono (by decide)) rfl T.g__law_one T.k__law_one b__law_one .nil pass0 (pa_cons (pv 2) (pa_cons (pe_lst (pa_cons pe_int (pa_cons pe_int (pa_cons (pe_op op_add pe_int (pe_call G__law_next (hr.mono (by decide)) rfl T.g__law_next T.k__law_next b__law_next .nil pass0 (pa_cons (pv 2) (pa_cons (pe_pw (r := 10000) ⟨by decide, by decide, by decide⟩ (by decide +kernel)) pa_nil)))) pa_nil)))) pa_nil))))
      (pss_cons (ps_set (i := 4) sc_law.nd rfl (Or.inl rfl) (pe_op op_mulW (pv 3) (pe_op op_add pe_int (pe_call G__law_next (hr.mono (by decide)) rfl T.g__law_next T.k__law_next b__law_next .nil pass0 (pa_cons (pv 2) (pa_cons (pe_call G__law_one (hr.mono (by decide)) rfl T.g__law_one T.k__law_one b__law_one .nil pass0 (pa_cons (pv 2) (pa_cons (pe_lst (pa_cons pe_int (pa_cons pe_int (pa_cons (pe_pw (r := 10000000000) ⟨by decide, by decide, by decide⟩ (by decide +kernel)) pa_nil)))) pa_nil))) pa_nil))))))
      (pss_cons (ps_set (i := 5) sc_law.nd rfl (Or.inl rfl) (pe_op op_mulW (pv 3) (pe_call G__law_next (hr.mono (by decide)) rfl T.g__law_next T.k__law_next b__law_next .nil pass0 (pa_cons (pv 2) (pa_cons (pe_call G__law_one (hr.mono (by decide)) rfl T.g__law_one T.k__law_one b__law_one .nil pass0 (pa_cons (pv 2) (pa_cons (pe_lst (pa_cons pe_int (pa_cons pe_int (pa_cons (pe_pw (r := 10000000000) ⟨by decide, by decide, by decide⟩ (by decide +kernel)) pa_nil)))) pa_nil))) pa_nil)))))
      (pss_cons (ps_set (i := 6) sc_law.nd rfl (Or.inl rfl) (pe_op op_add (pv 5) (pe_op op_mulW (pv 3) (pe_op op_add pe_int (pe_call G__law_next (hr.mono (by decide)) rfl T.g__law_next T.k__law_next b__law_next .nil pass0 (pa_cons (pv 2) (pa_cons (pe_call G__law_one (hr.mono (by decide)) rfl T.g__law_one T.k__law_one b__law_one .nil pass0 (pa_cons (pv 2) (pa_cons (pe_lst (pa_cons pe_int (pa_cons pe_int (pa_cons (pe_pw (r := 1000000000) ⟨by decide, by decide, by decide⟩ (by decide +kernel)) pa_nil)))) pa_nil))) pa_nil)))))))
      (pss_cons (ps_par (i := 7) (j := 8) (by rfl) sc_law.nd rfl rfl (by decide) rfl rfl (pa_cons pe_int (pa_cons (pe_op op_add (pv 4) (pv 5)) pa_nil)) (by rfl))
      (pss_cons (ps_while PassesOwn.never (pt_cmpR op_gt (pe_op op_sub (pv 8) (pv 7)) pe_int (nomark _)) (pss_cons (ps_set (i := 9) sc_law.nd rfl (Or.inl rfl) (pe_op op_fdivW (pe_op op_add (pv 7) (pv 8)) pe_int))
      (pss_one (ps_if (pt_val (pe_call G__law_some (hr.mono (by decide)) rfl T.g__law_some T.k__law_some b__law_some .nil pass0 (pa_cons (pv 4) (pa_cons (pv 5) (pa_cons (pv 6) (pa_cons (pv 9) pa_nil)))))) (pss_one (ps_set (i := 8) sc_law.nd rfl (Or.inl rfl) (pv 9))) (pss_one (ps_set (i := 7) sc_law.nd rfl (Or.inl rfl) (pv 9)))))))
      (pss_cons (ps_set (i := 10) sc_law.nd rfl (Or.inl rfl) (pv 8))
      (C8.pss_cut (ps_if (pt_val (pe_call G__law_some (hr.mono (by decide)) rfl T.g__law_some T.k__law_some b__law_some .nil pass0 (pa_cons (pv 4) (pa_cons (pv 5) (pa_cons (pv 6) (pa_cons (pv 8) pa_nil)))))) (pss_one (ps_set (i := 10) sc_law.nd rfl (Or.inl rfl) (pe_op op_sub (pv 8) pe_int))) pss_nil)
      (pss_cons (ps_set (i := 11) sc_law.nd rfl (Or.inl rfl) (pe_make T.mk_Drum G_Drumu__initu_ (hr.mono (by decide)) rfl T.g_Drum b_Drumu__initu_ .nil pass0 (pa_cons (pv 4) (pa_cons (pv 5) pa_nil))))
      (pss_cons (ps_set (i := 12) sc_law.nd rfl (Or.inl rfl) (pe_make T.mk_Drum G_Drumu__initu_ (hr.mono (by decide)) rfl T.g_Drum b_Drumu__initu_ .nil pass0 (pa_cons (pv 4) (pa_cons (pv 6) pa_nil))))
      (pss_cons (ps_set (i := 13) sc_law.nd rfl (Or.inl rfl) (pe_call G_parted (hr.mono (by decide)) rfl T.g_parted T.k_parted b_parted .nil pass0 (pa_cons (pv 11) (pa_cons (pv 12) pa_nil))))
      (pss_cons (ps_if (PW.pt (pw_or (pt_cmpR op_ne (pv 13) (pe_op op_add (pv 4) (pv 10)) (nomark _)) (pw_or1 (pt_cmpR op_ne (pe_call G_parted (hr.mono (by decide)) rfl T.g_parted T.k_parted b_parted .nil pass0 (pa_cons (pv 12) (pa_cons (pv 11) pa_nil))) (pv 13) (nomark _))))) (pss_one (ps_ret pe_bl)) pss_nil)
      (pss_cons (ps_if (PW.pt (pw_or (pt_cmpR (op_eqD hr.units) (pe_call G_beneath (hr.mono (by decide)) rfl T.g_beneath T.k_beneath b_beneath .nil pass0 (pa_cons (pv 11) (pa_cons (pv 13) pa_nil))) (pe_call G_beneath (hr.mono (by decide)) rfl T.g_beneath T.k_beneath b_beneath .nil pass0 (pa_cons (pv 12) (pa_cons (pv 13) pa_nil))) (nomark _)) (pw_or1 (pt_cmpR (op_neD hr.units) (pe_call G_beneath (hr.mono (by decide)) rfl T.g_beneath T.k_beneath b_beneath .nil pass0 (pa_cons (pv 11) (pa_cons (pe_op op_sub (pv 13) pe_int) pa_nil))) (pe_call G_beneath (hr.mono (by decide)) rfl T.g_beneath T.k_beneath b_beneath .nil pass0 (pa_cons (pv 12) (pa_cons (pe_op op_sub (pv 13) pe_int) pa_nil))) (nomark _))))) (pss_one (ps_ret pe_bl)) pss_nil)
      (pss_one (ps_if (PW.pt (pw_or (pt_cmpR op_notBl (pe_call G_alike (hr.mono (by decide)) rfl T.g_alike T.k_alike b_alike .nil pass0 (pa_cons (pv 11) (pa_cons (pv 12) (pa_cons (pv 13) pa_nil)))) pe_bl (nomark _)) (pw_or1 (pt_cmpR op_notBl (pe_callN0 G_alike (hr.mono (by decide)) rfl T.g_alike T.k_alike kr_alike pass0 (pk_cons (pe_op op_add (pv 13) pe_int) (pk_cons (pv 12) (pk_cons (pv 11) pk_nil)))) pe_bl (nomark _))))) (pss_one (ps_ret pe_bl)) pss_nil)))))))))))))))))
      (pss_one (ps_ret pe_bl))), ?_⟩
    show (_ : TS) _ [some (.ref a), none, none, none, none, none, none, none, none, none, none, none, none, none] _
    try dsimp only [nk]
    walk_at "rd"
    refine y_law_cell_at hS hlen (by decide) fun r0 => ?_
    walk_at "rd"
    intro l1 hl1
    walk_at "rd"
    refine x_slL ((same_upd hl1).seq hS) fun l2 hl2 => ?_
    refine x_cat (at_upd hl2 upd_same) upd_same (cells_len hlen) fun lp hlp => ?_
    walk_at "rd"
    refine x_forL upd_same (fun _ σ _ => ∃ v1 v2 v3 v4 v5 v6 v7 v8 v9 v10 v11 v12 v13 : Option V, σ = [some (.ref a), v1, v2, v3, v4, v5, v6, v7, v8, v9, v10, v11, v12, v13]) ⟨_, _, _, _, _, _, _, _, _, _, _, _, _, rfl⟩ ?_ ?_
    · rintro i x σ H hx ⟨v1, v2, v3, v4, v5, v6, v7, v8, v9, v10, v11, v12, v13, rfl⟩ hL
      obtain ⟨z, rfl⟩ := cells_int (List.mem_of_getElem? hx)
      clear hx hl1 hl2 hlp
      generalize [V.int r0] ++ cutV (List.map V.int ns) (some 1) (some 5) = cells at *
      walk_at "rd"
      refine y_source_of fun q Hs hq ss src0 => ?_
      have hLs := ss _ _ hL
      have hne : lp ≠ q := ne_of_none hL hq
      walk_at "rd"
      refine y_next (by walk_at "src") (by omega) (by omega) (by omega) fun ru Hru ru0 ru1 srcru buru => ?_
      have bd_ru : Bd 200 ru := Bd.of ru0 (by omega)
      walk_at "rd"
      intro pu hpu
      walk_at "rd"
      refine y_one (by walk_at "src") (by omega) (by walk_at "at") (Src.neN (by walk_at "src") hpu) (by walk_at "len") (by walk_at "len") fun v_u Hu hv_u srcu buu => ?_
      obtain ⟨u, rfl, u0, u1⟩ : ∃ u : Int, v_u = V.int u ∧ 1 ≤ u ∧ u ≤ 10000 := by
        simp only [List.mem_cons, List.not_mem_nil, or_false] at hv_u
        rcases hv_u with rfl | rfl | rfl <;> exact ⟨_, rfl, by omega, by omega⟩
      have bd_u : Bd 200 u := Bd.of (by omega) (by omega)
      walk_at "rd"
      intro poa hpoa
      walk_at "rd"
      refine y_one (by walk_at "src") (by omega) (by walk_at "at") (Src.neN (by walk_at "src") hpoa) (by walk_at "len") (by walk_at "len") fun v_oa Hoa hv_oa srcoa buoa => ?_
      obtain ⟨oa, rfl, oa0, oa1⟩ : ∃ oa : Int, v_oa = V.int oa ∧ 9 ≤ oa ∧ oa ≤ 10000000000 := by
        simp only [List.mem_cons, List.not_mem_nil, or_false] at hv_oa
        rcases hv_oa with rfl | rfl | rfl <;> exact ⟨_, rfl, by omega, by omega⟩
      have bd_oa : Bd 200 oa := Bd.of (by omega) (by omega)
      walk_at "rd"
      refine y_next (by walk_at "src") (by omega) (by omega) (by omega) fun rf Hrf rf0 rf1 srcrf burf => ?_
      have bd_rf : Bd 200 rf := Bd.of rf0 (by omega)
      walk_at "rd"
      intro pob hpob
      walk_at "rd"
      refine y_one (by walk_at "src") (by omega) (by walk_at "at") (Src.neN (by walk_at "src") hpob) (by walk_at "len") (by walk_at "len") fun v_ob Hob hv_ob srcob buob => ?_
      obtain ⟨ob, rfl, ob0, ob1⟩ : ∃ ob : Int, v_ob = V.int ob ∧ 9 ≤ ob ∧ ob ≤ 10000000000 := by
        simp only [List.mem_cons, List.not_mem_nil, or_false] at hv_ob
        rcases hv_ob with rfl | rfl | rfl <;> exact ⟨_, rfl, by omega, by omega⟩
      have bd_ob : Bd 200 ob := Bd.of (by omega) (by omega)
      walk_at "rd"
      refine y_next (by walk_at "src") (by omega) (by omega) (by omega) fun rs Hrs rs0 rs1 srcrs burs => ?_
      have bd_rs : Bd 200 rs := Bd.of rs0 (by omega)
      walk_at "rd"
      intro poc hpoc
      walk_at "rd"
      refine y_one (by walk_at "src") (by omega) (by walk_at "at") (Src.neN (by walk_at "src") hpoc) (by walk_at "len") (by walk_at "len") fun v_oc Hoc hv_oc srcoc buoc => ?_
      obtain ⟨oc, rfl, oc0, oc1⟩ : ∃ oc : Int, v_oc = V.int oc ∧ 1 ≤ oc ∧ oc ≤ 1000000000 := by
        simp only [List.mem_cons, List.not_mem_nil, or_false] at hv_oc
        rcases hv_oc with rfl | rfl | rfl <;> exact ⟨_, rfl, by omega, by omega⟩
      have bd_oc : Bd 200 oc := Bd.of (by omega) (by omega)
      walk_at "rd"
      refine y_next (by walk_at "src") (by omega) (by omega) (by omega) fun rt Hrt rt0 rt1 srcrt burt => ?_
      have bd_rt : Bd 200 rt := Bd.of rt0 (by omega)
      walk_at "rd"
      have f1 : 1 ≤ u * (1 + rf) := mul_ge1 (by omega) (by omega)
      have f2 := mul_bd (a := u) (b := 1 + rf) (A := 10000) (B := 10000000000) (by omega) (by omega) (by omega) (by omega)
      have g1 := mul_bd (a := u) (b := rs) (A := 10000) (B := 10000000000) (by omega) (by omega) (by omega) (by omega)
      have h1 : 1 ≤ u * (1 + rt) := mul_ge1 (by omega) (by omega)
      have h2 := mul_bd (a := u) (b := 1 + rt) (A := 10000) (B := 1000000000) (by omega) (by omega) (by omega) (by omega)
      generalize u * (1 + rf) = f at *
      generalize u * rs = s at *
      generalize u * (1 + rt) = w at *
      have st : s < s + w := by omega
      have t2 : s + w ≤ 110000000000000 := by omega
      generalize s + w = t at *
      walk_at "rd"
      have P := (show Hrt lp = some (.lst cells) by walk_at "at")
      have NG : ¬ Gp f (f + s) (f + t) 0 := fun ⟨i, hi, _⟩ => by omega
      refine x_while (fun σ H' => H' = Hrt ∧ ∃ (lo hi : Int) (x9 x10 x11 x12 x13 : Option V), σ = [some (.ref a), some (.int z), some (.ref q), some (.int u), some (.int f), some (.int s), some (.int t), some (.int lo), some (.int hi), x9, x10, x11, x12, x13] ∧ 0 ≤ lo ∧ lo < hi ∧ hi ≤ f + s ∧ ¬ Gp f (f + s) (f + t) lo ∧ (hi = f + s ∨ Gp f (f + s) (f + t) hi)) (fun σ => (sI 8 σ - sI 7 σ).toNat)
        ⟨rfl, 0, f + s, _, _, _, _, _, rfl, by decide, by omega, by omega, NG, .inl rfl⟩ ?_
      rintro σ H1 ⟨rfl, lo, hi, z0, z1, z2, z3, z4, rfl, l0, l1, l2, l3, l4⟩
      walk_at "rd"
      refine x_wh (fun g => ?_) (fun g => ?_)
      · walk_at "rd"
        refine y_some f1 (by omega) (by omega) st (by omega) (by omega) (by omega) fun k hk => ?_
        walk_at "rd"
        refine x_iteK (fun e => ?_) (fun e => ?_)
        · walk_at "rd"
          refine ⟨⟨rfl, lo, (lo + hi) / 2, _, _, _, _, _, rfl, l0, by omega, by omega, l3, .inr (hk.mp e)⟩, ?_⟩
          show ((lo + hi) / 2 - lo).toNat < (hi - lo).toNat
          omega
        · walk_at "rd"
          refine ⟨⟨rfl, (lo + hi) / 2, hi, _, _, _, _, _, rfl, by omega, by omega, by omega, (fun z => by rw [hk.mpr z] at e; cases e), l4⟩, ?_⟩
          show (hi - (lo + hi) / 2).toNat < (hi - lo).toNat
          omega
      · walk_at "rd"
        refine x_cut81 (fun σ' H' => H' = H1 ∧ ∃ (pl : Int) (x9 x11 x12 x13 : Option V), σ' = [some (.ref a), some (.int z), some (.ref q), some (.int u), some (.int f), some (.int s), some (.int t), some (.int lo), some (.int hi), x9, some (.int pl), x11, x12, x13] ∧ ∀ c, PartP f s t c → c = pl) ?_ ?_
        · walk_at "rd"
          refine y_some f1 (by omega) (by omega) st (by omega) (by omega) (by omega) fun k hk => ?_
          walk_at "rd"
          refine x_iteK (fun e => ?_) (fun e => ?_)
          · walk_at "rd"
            refine ⟨rfl, _, _, _, _, _, rfl, fun c pc => ?_⟩
            have a1 := (gp_iff f1 (by omega) st pc).mp (hk.mp e)
            have a2 : ¬ c < lo := fun z => l3 ((gp_iff f1 (by omega) st pc).mpr z)
            omega
          · walk_at "rd"
            refine ⟨rfl, _, _, _, _, _, rfl, fun c pc => ?_⟩
            have a1 : ¬ c < hi := fun z => by rw [hk.mpr ((gp_iff f1 (by omega) st pc).mpr z)] at e; cases e
            have a2 : hi = f + s := l4.resolve_right (fun z => by rw [hk.mpr z] at e; cases e)
            have a3 := pc.bd f1 (by omega) st
            omega
        · rintro σ' H2 ⟨rfl, pl, y0, y1, y2, y3, rfl, hpl⟩
          clear l3 l4 NG
          walk_at "rd"
          refine x_mkP (by omega) (by omega) (by omega) (by omega) fun d1 Hd1 hd1 sd1 Dd1 => ?_
          walk_at "rd"
          refine x_mkP (by omega) (by omega) (by omega) (by omega) fun d2 Hd2 hd2 sd2 Dd2 => ?_
          walk_at "rd"
          refine y_partedS (by walk_at "drm") (by walk_at "drm") st fun c H3 pc s3 => ?_
          have ec := hpl c pc
          subst ec
          obtain ⟨B1, B2, B3, B4⟩ := part_bn f1 (by omega) st pc
          obtain ⟨c0, c1⟩ := pc.bd f1 (by omega) st
          have D1 : Drm K H3 d1 f s := by walk_at "drm"
          have D2 : Drm K H3 d2 f t := by walk_at "drm"
          have P3 : H3 lp = some (.lst cells) := by walk_at "at"
          walk_at "rd"
          refine y_partedR D2 D1 st fun c' H4 pc' s4 => ?_
          have ec := hpl c' pc'
          subst ec
          walk_at "rd"
          refine y_beneath (D1.same s4) (by omega) (by omega) (fun h => absurd h B2) fun _ q5 H5 s5 e5 => ?_
          walk_at "rd"
          refine y_beneath ((D2.same s4).same s5) (by omega) (by omega) (fun h => absurd h B3) fun _ q6 H6 s6 e6 => ?_
          walk_at "rd"
          try refine x_eqT2 (s6 _ _ e5) e6 ?_
          walk_at "rd"
          try refine x_iteF B1 ?_
          walk_at "rd"
          have D1 := (D1.same s4).same s5 ; have D2 := (D2.same s4).same s5 ; have P3 := s5 _ _ (s4 _ _ P3)
          have D1 := D1.same s6 ; have D2 := D2.same s6 ; have P3 := s6 _ _ P3
          clear s4 s5 s6 e5 e6 B1 B2 B3
          by_cases cz : c' = 0
          · have t1 : tOf f s (f + c' - 1) = 0 := tOf_nul f1 (by omega) (by omega) (by omega)
            have t2' : tOf f t (f + c' - 1) = 0 := tOf_nul f1 (by omega) (by omega) (by omega)
            refine y_beneath D1 (by omega) (by omega) (fun _ H7 s7 => ?_) (fun h => absurd t1 h)
            walk_at "rd"
            refine y_beneath (D2.same s7) (by omega) (by omega) (fun _ H8 s8 => ?_) (fun h => absurd t2' h)
            walk_at "rd"
            try refine x_neNN ?_
            walk_at "rd"
            refine y_alikeS (by walk_at "drm") (by walk_at "drm") st (by omega) fun c2 H9 pc2 s9 => ?_
            have ec := hpl c2 pc2
            subst ec
            walk_at "rd"
            refine x_notBl ?_
            walk_at "rd"
            refine x_iteNF (by simp) ?_
            walk_at "rd"
            refine x_callN0 ?_
            walk_at "rd"
            refine y_alikeS (by walk_at "drm") (by walk_at "drm") st (by omega) fun c3 H10 pc3 s10 => ?_
            have ec := hpl c3 pc3
            subst ec
            walk_at "rd"
            refine x_notBl ?_
            walk_at "rd"
            refine x_iteNF (by simp; omega) ?_
            walk_at "rd"
            exact ⟨⟨_, _, _, _, _, _, _, _, _, _, _, _, _, rfl⟩, by walk_at "at"⟩
          · obtain ⟨A1, A2, A3, A4⟩ := B4 (by omega)
            refine y_beneath D1 (by omega) (by omega) (fun h => absurd h A1) (fun _ q7 H7 s7 e7 => ?_)
            walk_at "rd"
            refine y_beneath (D2.same s7) (by omega) (by omega) (fun h => absurd h A2) (fun _ q8 H8 s8 e8 => ?_)
            walk_at "rd"
            try refine x_neT2 (s8 _ _ e7) e8 ?_
            walk_at "rd"
            try refine x_iteNF ⟨A3, A4⟩ ?_
            walk_at "rd"
            refine y_alikeS (by walk_at "drm") (by walk_at "drm") st (by omega) fun c2 H9 pc2 s9 => ?_
            have ec := hpl c2 pc2
            subst ec
            walk_at "rd"
            refine x_notBl ?_
            walk_at "rd"
            refine x_iteNF (by simp) ?_
            walk_at "rd"
            refine x_callN0 ?_
            walk_at "rd"
            refine y_alikeS (by walk_at "drm") (by walk_at "drm") st (by omega) fun c3 H10 pc3 s10 => ?_
            have ec := hpl c3 pc3
            subst ec
            walk_at "rd"
            refine x_notBl ?_
            walk_at "rd"
            refine x_iteNF (by simp; omega) ?_
            walk_at "rd"
            exact ⟨⟨_, _, _, _, _, _, _, _, _, _, _, _, _, rfl⟩, by walk_at "at"⟩
    · rintro σ H ⟨v1, v2, v3, v4, v5, v6, v7, v8, v9, v10, v11, v12, v13, rfl⟩
      walk_at "rd"
      exact k _
end Wm

open PySem PySem.W PySem.Calls PyProof.Rows
set_option maxRecDepth 100000 in
set_option maxHeartbeats 0 in
theorem PySem.Challenge.cw_wetmarks_k81_whole_great_drums_parted_holds : PySem.Challenge.rw_wetmarks_k81_whole_great_drums_parted.Holds := by
  w_on; o_law
  refine HandSHeadRun.head_imp (r := OpenLaw.row PySem.Challenge.rw_wetmarks_k81_whole_great_drums_parted) (q := view (OpenLaw.row PySem.Challenge.rw_wetmarks_k81_whole_great_drums_parted).prog [0, 34]) (H := Wm.hk) (ob := Wm.ob) (M := 6000) (loose := Wm.loose) (d := HandSHeadRun.topDef (OpenLaw.row PySem.Challenge.rw_wetmarks_k81_whole_great_drums_parted).prog 34) (kwd := []) Wm.ob_eq
    Wm.run (by kernel_rfl) (by kernel_rfl) (by kernel_rfl) (by rfl) (by first | assumption | decide +kernel) (by decide +kernel) ⟨rfl, rfl, rfl, rfl, rfl, by decide +kernel⟩ ?hw ?hc
  case hw => w_witness2
  case hc =>
    refine L2.walk_ofE (l := PySem.Challenge.rw_wetmarks_k81_whole_great_drums_parted) (n := 63) (k := 121) (x := "_law_script") (CX := L2.CX0) rfl (by decide) (by kernel_rfl) ⟨rfl, by decide, by decide⟩ ?F (fun _ _ _ _ z => z)
    intro w mg fa h Y G hmg0
    obtain ⟨K, KX, c, b, x⟩ := Y
    have hmg : mg ("law" : PySem.Str) = some (.ref fa) := by
      have e : (HandSHeadRun.topDef (OpenLaw.row PySem.Challenge.rw_wetmarks_k81_whole_great_drums_parted).prog 34).name = ("law" : PySem.Str) := by kernel_rfl
      rw [← e]
      exact hmg0
    have T := Wm.txt KX G c b x
    have e := hmg.symm.trans T.g_law
    cases e
    obtain ⟨fd, F⟩ := T.f_law
    have hb := L2.FunD.bindsA (ps := ["_law_script"]) F fun _ _ _ _ _ _ us hl => match us, hl with | [_], _ => rfl
    exact ⟨K, fd, Wm.spLaw K, KX, fun s v => hb s [v] rfl, fun H a ns hl _ hS => ⟨a, ns, rfl, hS, hl, fun _ => rfl⟩, fun base _ _ => Wm.ok_law T F⟩
#print axioms PySem.Challenge.cw_wetmarks_k81_whole_great_drums_parted_holds
