import PyProof.Rows.All
import Wide.All
import OpenK.AllK
import Wide.FinOn
import KE.KStateDown
import HandS.ForMost
import HandS.Wide
import HandS.Gcd
import HandS.IsInst
import HandS.Defaults
import HandS.Head0
import HandS.Head1
import HandS.Head2
import HandS.Head3
import HandS.HeadEnd
import HandS.HeadHook1
import HandS.HeadHook2
import PyProof.LongRange
import HandS.Conv
import Flt.RightSqrt
import HandS.Flt
import KE.SortData
import HandS.Comp
import HandS.Deep
import HandS.Codes
import PySem.Challenge.RW_wetmarks_k39_whole_longer_rolls
set_option Elab.async false
set_option linter.all false
set_option maxRecDepth 100000
set_option maxHeartbeats 8000000
/-! Own lemmas: how a reading is run from the left, one head at a time. -/
namespace Wm
open PySem PySem.Spec PyProof.Rows L2

/-! ### isqrt -/
def rIsqrt : List V → Hp → VK → Prop := fun vs H Q => ∃ a : Int, vs = [.int a] ∧ 0 ≤ a ∧ a.toNat.log2 ≤ 13000 ∧ Q (.int ((PySem.Float64.isqrt a.toNat : Nat) : Int)) H
theorem cr_isqrt {X : Cx} : CallR X (.builtin "math.isqrt") rIsqrt := by
  intro pins s σ H vs us Q I r h
  obtain ⟨a, rfl, h0, hl, q⟩ := h
  cases r with
  | cons r1 r2 =>
    cases r2
    obtain ⟨t, rfl⟩ := r1
    exact call_function_meets PySem.W.MGF.kind_isqrt PySem.W.MGF.plain_isqrt PySem.W.MGF.entry_isqrt (PySem.W.MGF.args_isqrt _) (PySem.W.mg_run_isqrt a t (by omega) (by omega) (by omega)).meets ⟨.int _, H, I.tok _, ⟨_, rfl⟩, q⟩

/-! ### readings, from the left -/
section
variable {K : PySem.W.Frag} {σ : L2.St} {H : Hp} {Q : VK} {D : Ends} {E : XK} {ta tb tc : TE} {r r' : R2} {t u : TS} {c : TT}
theorem x_seq (h : t { D with nx := u D } σ H) : tSeq t u D σ H := h
theorem x_next (h : D.nx σ H) : tNext D σ H := h
theorem x_drop (h : ta σ H fun _ H1 => D.nx σ H1) : tDrop ta D σ H := h
theorem x_asg {g : TG} (h : ta σ H fun x H1 => g x σ H1 D.nx) : tAsg ta g D σ H := h
theorem x_ret (h : ta σ H D.rt) : tRet ta D σ H := h
theorem x_retN (h : D.rt .non H) : tRetN D σ H := h
theorem x_ifS (h : c σ H fun b H1 => if b = true then t D σ H1 else u D σ H1) : tIfS c t u D σ H := h
theorem x_gName {i : Nat} {v : V} {R : L2.St → Hp → Prop} (h : R (σ.set i (some v)) H) : gName i v σ H R := h
theorem x_var {i : Nat} {v : V} (e : σ[i]? = some (some v)) (h : Q v H) : tVar i σ H Q := ⟨v, e, h⟩
theorem x_c {v : V} (h : Q v H) : tC v σ H Q := h
theorem x_op (h : ta σ H fun x H1 => tb σ H1 fun y H2 => r x y H2 Q) : tOp r ta tb σ H Q := h
theorem x_un {r : V → Hp → VK → Prop} (h : ta σ H fun x H1 => r x H1 Q) : tUn r ta σ H Q := h
theorem x_rI0 {g : Int → Int → V} {i j : Int} (h : Q (g i j) H) : rI0 g (.int i) (.int j) H Q := ⟨i, j, rfl, rfl, h⟩
theorem x_rI {C : Int → Int → Prop} {g : Int → Int → V} {i j : Int} (hc : C i j) (h : Q (g i j) H) : rI C g (.int i) (.int j) H Q := ⟨i, j, rfl, rfl, hc, h⟩
theorem x_rU {g : Int → V} {i : Int} (h : Q (g i) H) : rU g (.int i) H Q := ⟨i, rfl, h⟩
theorem x_rEqI {i j : Int} (h : Q (.bl (decide (i = j))) H) : rEq (.int i) (.int j) H Q := ⟨rfl, by
  have e : decide (V.int i = V.int j) = decide (i = j) := by by_cases x : i = j <;> simp [x]
  rw [e]; exact h⟩
theorem x_rNeI {i j : Int} (h : Q (.bl (!decide (i = j))) H) : rNe (.int i) (.int j) H Q := ⟨rfl, by
  have e : decide (V.int i = V.int j) = decide (i = j) := by by_cases x : i = j <;> simp [x]
  rw [e]; exact h⟩
/-- a value that must be a bool -/
def asB (R : Bool → Hp → Prop) (x : V) (H : Hp) : Prop := ∃ k, x = .bl k ∧ R k H
theorem x_test {R : Bool → Hp → Prop} (h : ta σ H fun x H1 => asB R x H1) : tTest ta σ H R := h
theorem x_B {R : Bool → Hp → Prop} (h : ta σ H fun x H1 => asB R x H1) : tB ta σ H R := h
theorem x_asB {R : Bool → Hp → Prop} {k : Bool} (h : R k H) : asB R (.bl k) H := ⟨k, rfl, h⟩
theorem x_not {R : Bool → Hp → Prop} (h : c σ H fun b H1 => R (!b) H1) : tNot c σ H R := h
theorem x_and {c2 : TT} {R : Bool → Hp → Prop} (h : c σ H fun b H1 => if b = true then c2 σ H1 R else R false H1) : tAnd c c2 σ H R := h
theorem x_or {c2 : TT} {R : Bool → Hp → Prop} (h : c σ H fun b H1 => if b = true then R true H1 else c2 σ H1 R) : tOr c c2 σ H R := h
theorem x_andV (h : ta σ H fun x H1 => asB (fun c H1 => if c = true then tb σ H1 Q else Q (.bl false) H1) x H1) : tAndV ta tb σ H Q := h
theorem x_orV (h : ta σ H fun x H1 => asB (fun c H1 => if c = true then Q (.bl true) H1 else tb σ H1 Q) x H1) : tOrV ta tb σ H Q := h
theorem x_notV (h : ta σ H fun x H1 => asB (fun c H1 => Q (.bl (!c)) H1) x H1) : tNotV ta σ H Q := h
theorem x_tIf (h : c σ H fun b H1 => if b = true then ta σ H1 Q else tb σ H1 Q) : tIf c ta tb σ H Q := h
/-- the second link of a chain -/
def chK (r' : R2) (tc : TE) (σ : L2.St) (y : V) (Q : VK) (z : V) (H : Hp) : Prop := ∃ k, z = .bl k ∧ if k = true then tc σ H fun w H4 => r' y w H4 Q else Q (.bl false) H
theorem x_chain (h : ta σ H fun x H1 => tb σ H1 fun y H2 => r x y H2 fun z H3 => chK r' tc σ y Q z H3) : tChain r r' ta tb tc σ H Q := h
theorem x_chK {y : V} {k : Bool} (h : if k = true then tc σ H fun w H4 => r' y w H4 Q else Q (.bl false) H) : chK r' tc σ y Q (.bl k) H := ⟨k, rfl, h⟩
theorem x_nil {R : List V → Hp → Prop} (h : R [] H) : tNil σ H R := h
theorem x_cons {tr : TA} {R : List V → Hp → Prop} (h : ta σ H fun x H1 => tr σ H1 fun xs H2 => R (x :: xs) H2) : tCons ta tr σ H R := h
theorem x_cb {rr : List V → Hp → VK → Prop} {tA : TA} (h : tA σ H fun vs H1 => rr vs H1 Q) : tCB rr tA σ H Q := h
theorem x_call {sp : Sp} {tA : TA} (h : tA σ H fun vs H1 => sp vs H1 Q E) : tCall sp [] E tA σ H Q := by
  unfold tCall
  simp only [List.append_nil]
  exact h
theorem x_tup {tA : TA} (h : tA σ H fun xs H1 => xs.length ≤ sizeLine ∧ ∀ p, H1 p = none → Q (.ref p) (upd H1 p (.tup xs))) : tTup tA σ H Q := h
theorem x_lst {tA : TA} (h : tA σ H fun xs H1 => xs.length ≤ sizeLine ∧ ∀ p, H1 p = none → Q (.ref p) (upd H1 p (.lst xs))) : tLst tA σ H Q := h
theorem x_size {xs : List V} {A : Prop} (hs : xs.length ≤ 1000) (h : A) : xs.length ≤ sizeLine ∧ A := ⟨Nat.le_trans hs (by decide), h⟩
theorem x_iteT {p A B : Prop} [Decidable p] (hp : p) (h : A) : if decide p = true then A else B := by simp [hp]; exact h
theorem x_iteF {p A B : Prop} [Decidable p] (hp : ¬ p) (h : B) : if decide p = true then A else B := by simp [hp]; exact h
theorem x_iteNT {p A B : Prop} [Decidable p] (hp : ¬ p) (h : A) : if (!decide p) = true then A else B := by simp [hp]; exact h
theorem x_iteNF {p A B : Prop} [Decidable p] (hp : p) (h : B) : if (!decide p) = true then A else B := by simp [hp]; exact h
theorem x_ite {p A B : Prop} [Decidable p] (h1 : p → A) (h2 : ¬ p → B) : if decide p = true then A else B := by
  by_cases hp : p
  · exact x_iteT hp (h1 hp)
  · exact x_iteF hp (h2 hp)
theorem x_iteN {p A B : Prop} [Decidable p] (h1 : ¬ p → A) (h2 : p → B) : if (!decide p) = true then A else B := by
  by_cases hp : p
  · exact x_iteNF hp (h2 hp)
  · exact x_iteNT hp (h1 hp)
theorem x_t {A B : Prop} (h : A) : if true = true then A else B := by simp; exact h
theorem x_f {A B : Prop} (h : B) : if false = true then A else B := by simp; exact h
theorem x_nt {A B : Prop} (h : B) : if (!true) = true then A else B := by simp; exact h
theorem x_nf {A B : Prop} (h : A) : if (!false) = true then A else B := by simp; exact h
end
end Wm
namespace Wm
open PySem PySem.Spec PyProof.Rows L2
/-! ### the head's facts, with names that stand for built-in functions -/
def bfn (K : PySem.W.Frag) (q : Str × String) : Bool := He.eqO (PySem.W.nsIn K mainGlobals q.1) (some (some (.builtin q.2)))
theorem bfn_ok {K : PySem.W.Frag} {h : Heap} {mg : Str → Option Value} (X : K.In h) (G : h.Ns mainGlobals mg) {x : Str} {id : String} (c : bfn K (x, id) = true) : mg x = some (.builtin id) := PySem.W.mg_of X G (He.eqO_ok c)
def obsBG (n : Nat) (fa : List He.Fa) (fn : List He.DefD) (bi : List (Str × String)) (g : Addr → Option Obj) : He.AlD × Bool :=
  (He.obsDG n fa fn g, bi.all (bfn (He.frG g (He.asD g n))))
def hookB (n : Nat) (fa : List He.Fa) (fn : List He.DefD) (bi : List (Str × String)) : PySem.W.Hook where
  α := He.AlD × Bool
  obs := fun s => obsBG n fa fn bi s.heap.get?
  val := fun _ => (He.valD fn, true)
  says := fun _ h => ∃ K : PySem.W.Frag, K.In h ∧ He.SaysD fa fn K ∧ ∀ q ∈ bi, bfn K q = true
  of := fun _ _ e => ⟨_, He.frG_in, congrArg (fun z : He.AlD × Bool => z.1) e, fun q hq => List.all_eq_true.mp (show bi.all _ = true from congrArg (fun z : He.AlD × Bool => z.2) e) q hq⟩
  keeps := fun _ _ _ ⟨K, hK, c⟩ k => ⟨K, PySem.W.Frag.In.keeps hK k, c⟩
theorem obsBG_eq {n : Nat} {fa : List He.Fa} {fn : List He.DefD} {bi : List (Str × String)} {g : Addr → Option Obj} {s : Shared} (h : ∀ a, g a = s.heap.get? a) : obsBG n fa fn bi g = (hookB n fa fn bi).obs s := by
  have e : g = s.heap.get? := funext h
  rw [e] <;> rfl
end Wm
namespace Wm
open PySem PySem.Spec PyProof.Rows L2
theorem nk {CX : CXT} {P : Program} {w : World} {K : PySem.W.Frag} {mg : Str → Option Value} {base : Heap} {N : List Str} {q : Str} {sc : Scope} {f : Addr} {cd : Value} {A : Around} {o : List Env} {s : Shared} {H : Hp} {E : XK} :
    (cxOf CX P w K mg base N q sc f cd A o s H E).nox.K = K := rfl
end Wm

namespace Wm
open PySem PySem.Spec PyProof.Rows L2
abbrev R : PySem.W.OpenRow := PySem.W.OpenLaw.row PySem.Challenge.rw_wetmarks_k39_whole_longer_rolls
def top (i : Nat) : Stmt := PySem.Challenge.pw_wetmarks_k39_whole_longer_rolls.main.body.getD i (.Pass ⟨0, 0, 0, 0⟩)
abbrev s_is_whole : Stmt := top 10
abbrev s_is_from : Stmt := top 11
abbrev s_is_below : Stmt := top 12
abbrev s_check_turn : Stmt := top 14
abbrev s_check_cell : Stmt := top 15
abbrev s_check_length : Stmt := top 16
abbrev s_check_below : Stmt := top 17
abbrev s_check_face : Stmt := top 18
abbrev s_check_beats : Stmt := top 19
abbrev s_is_word : Stmt := top 20
abbrev s_is_tuple_of : Stmt := top 21
abbrev s_is_face : Stmt := top 22
abbrev s_beneath : Stmt := top 24
abbrev s_above : Stmt := top 25
abbrev s_piece : Stmt := top 26
abbrev s_apart : Stmt := top 27
abbrev s_on_way : Stmt := top 28
abbrev s_amid : Stmt := top 29
abbrev s_reach : Stmt := top 30
abbrev s_ends : Stmt := top 31
abbrev s_middle : Stmt := top 32
abbrev s__met : Stmt := top 33
abbrev s__sectors : Stmt := top 34
abbrev s__ground : Stmt := top 35
abbrev s__lone : Stmt := top 36
abbrev s__rise : Stmt := top 37
abbrev s__widened : Stmt := top 38
abbrev s__amidst : Stmt := top 39
abbrev s_Drumu__initu_ : Stmt := inClass (top 42) 0
abbrev s_Drum_first : Stmt := inClass (top 42) 2
abbrev s_Drum_step : Stmt := inClass (top 42) 3
abbrev s_Drum_size : Stmt := inClass (top 42) 4
abbrev s_Drum_begins : Stmt := inClass (top 42) 5
abbrev s_Drum_where : Stmt := inClass (top 42) 6
abbrev s_Drumu_turn_of : Stmt := inClass (top 42) 9
abbrev s__law_source_of : Stmt := top 44
abbrev s__law_next : Stmt := top 45
abbrev s__law_one : Stmt := top 46
abbrev s__law_cell_at : Stmt := top 47
abbrev s__law_great : Stmt := top 48
abbrev s__law_drum : Stmt := top 49
abbrev s__law_begins : Stmt := top 50
abbrev s__law_common : Stmt := top 51
abbrev s__law_roll : Stmt := top 52
abbrev s__law_face : Stmt := top 53
abbrev s__law_drawn : Stmt := top 54
abbrev s__law_within : Stmt := top 55
abbrev s__law_all_within : Stmt := top 56
abbrev s__law_beside : Stmt := top 57
abbrev s__law_told : Stmt := top 58
abbrev s_law : Stmt := top 59
def d_is_whole : He.DefD := ⟨("is_whole", none), "is_whole", "is_whole", defArgs s_is_whole, defBody s_is_whole, defScope s_is_whole, [], []⟩
def d_is_from : He.DefD := ⟨("is_from", none), "is_from", "is_from", defArgs s_is_from, defBody s_is_from, defScope s_is_from, [], []⟩
def d_is_below : He.DefD := ⟨("is_below", none), "is_below", "is_below", defArgs s_is_below, defBody s_is_below, defScope s_is_below, [], []⟩
def d_check_turn : He.DefD := ⟨("check_turn", none), "check_turn", "check_turn", defArgs s_check_turn, defBody s_check_turn, defScope s_check_turn, [], []⟩
def d_check_cell : He.DefD := ⟨("check_cell", none), "check_cell", "check_cell", defArgs s_check_cell, defBody s_check_cell, defScope s_check_cell, [], []⟩
def d_check_length : He.DefD := ⟨("check_length", none), "check_length", "check_length", defArgs s_check_length, defBody s_check_length, defScope s_check_length, [], []⟩
def d_check_below : He.DefD := ⟨("check_below", none), "check_below", "check_below", defArgs s_check_below, defBody s_check_below, defScope s_check_below, [], []⟩
def d_check_face : He.DefD := ⟨("check_face", none), "check_face", "check_face", defArgs s_check_face, defBody s_check_face, defScope s_check_face, [], []⟩
def d_check_beats : He.DefD := ⟨("check_beats", none), "check_beats", "check_beats", defArgs s_check_beats, defBody s_check_beats, defScope s_check_beats, [], []⟩
def d_is_word : He.DefD := ⟨("is_word", none), "is_word", "is_word", defArgs s_is_word, defBody s_is_word, defScope s_is_word, [], []⟩
def d_is_tuple_of : He.DefD := ⟨("is_tuple_of", none), "is_tuple_of", "is_tuple_of", defArgs s_is_tuple_of, defBody s_is_tuple_of, defScope s_is_tuple_of, [], []⟩
def d_is_face : He.DefD := ⟨("is_face", none), "is_face", "is_face", defArgs s_is_face, defBody s_is_face, defScope s_is_face, [], []⟩
def d_beneath : He.DefD := ⟨("beneath", none), "beneath", "beneath", defArgs s_beneath, defBody s_beneath, defScope s_beneath, [], []⟩
def d_above : He.DefD := ⟨("above", none), "above", "above", defArgs s_above, defBody s_above, defScope s_above, [], []⟩
def d_piece : He.DefD := ⟨("piece", none), "piece", "piece", defArgs s_piece, defBody s_piece, defScope s_piece, [], []⟩
def d_apart : He.DefD := ⟨("apart", none), "apart", "apart", defArgs s_apart, defBody s_apart, defScope s_apart, [], []⟩
def d_on_way : He.DefD := ⟨("on_way", none), "on_way", "on_way", defArgs s_on_way, defBody s_on_way, defScope s_on_way, [], []⟩
def d_amid : He.DefD := ⟨("amid", none), "amid", "amid", defArgs s_amid, defBody s_amid, defScope s_amid, [], []⟩
def d_reach : He.DefD := ⟨("reach", none), "reach", "reach", defArgs s_reach, defBody s_reach, defScope s_reach, [], []⟩
def d_ends : He.DefD := ⟨("ends", none), "ends", "ends", defArgs s_ends, defBody s_ends, defScope s_ends, [], []⟩
def d_middle : He.DefD := ⟨("middle", none), "middle", "middle", defArgs s_middle, defBody s_middle, defScope s_middle, [], []⟩
def d__met : He.DefD := ⟨("_met", none), "_met", "_met", defArgs s__met, defBody s__met, defScope s__met, [], []⟩
def d__sectors : He.DefD := ⟨("_sectors", none), "_sectors", "_sectors", defArgs s__sectors, defBody s__sectors, defScope s__sectors, [], []⟩
def d__ground : He.DefD := ⟨("_ground", none), "_ground", "_ground", defArgs s__ground, defBody s__ground, defScope s__ground, [], []⟩
def d__lone : He.DefD := ⟨("_lone", none), "_lone", "_lone", defArgs s__lone, defBody s__lone, defScope s__lone, [], []⟩
def d__rise : He.DefD := ⟨("_rise", none), "_rise", "_rise", defArgs s__rise, defBody s__rise, defScope s__rise, [], []⟩
def d__widened : He.DefD := ⟨("_widened", none), "_widened", "_widened", defArgs s__widened, defBody s__widened, defScope s__widened, [], []⟩
def d__amidst : He.DefD := ⟨("_amidst", none), "_amidst", "_amidst", defArgs s__amidst, defBody s__amidst, defScope s__amidst, [], []⟩
def d_Drumu__initu_ : He.DefD := ⟨("Drum", some "__init__"), "__init__", "Drum.__init__", defArgs s_Drumu__initu_, defBody s_Drumu__initu_, defScope s_Drumu__initu_, [], []⟩
def d_Drum_first : He.DefD := ⟨("Drum", some "first"), "first", "Drum.first", defArgs s_Drum_first, defBody s_Drum_first, defScope s_Drum_first, [], []⟩
def d_Drum_step : He.DefD := ⟨("Drum", some "step"), "step", "Drum.step", defArgs s_Drum_step, defBody s_Drum_step, defScope s_Drum_step, [], []⟩
def d_Drum_size : He.DefD := ⟨("Drum", some "size"), "size", "Drum.size", defArgs s_Drum_size, defBody s_Drum_size, defScope s_Drum_size, [], []⟩
def d_Drum_begins : He.DefD := ⟨("Drum", some "begins"), "begins", "Drum.begins", defArgs s_Drum_begins, defBody s_Drum_begins, defScope s_Drum_begins, [], []⟩
def d_Drum_where : He.DefD := ⟨("Drum", some "where"), "where", "Drum.where", defArgs s_Drum_where, defBody s_Drum_where, defScope s_Drum_where, [], []⟩
def d_Drumu_turn_of : He.DefD := ⟨("Drum", some "_turn_of"), "_turn_of", "Drum._turn_of", defArgs s_Drumu_turn_of, defBody s_Drumu_turn_of, defScope s_Drumu_turn_of, [], []⟩
def d__law_source_of : He.DefD := ⟨("_law_source_of", none), "_law_source_of", "_law_source_of", defArgs s__law_source_of, defBody s__law_source_of, defScope s__law_source_of, [], []⟩
def d__law_next : He.DefD := ⟨("_law_next", none), "_law_next", "_law_next", defArgs s__law_next, defBody s__law_next, defScope s__law_next, [], []⟩
def d__law_one : He.DefD := ⟨("_law_one", none), "_law_one", "_law_one", defArgs s__law_one, defBody s__law_one, defScope s__law_one, [], []⟩
def d__law_cell_at : He.DefD := ⟨("_law_cell_at", none), "_law_cell_at", "_law_cell_at", defArgs s__law_cell_at, defBody s__law_cell_at, defScope s__law_cell_at, [], []⟩
def d__law_great : He.DefD := ⟨("_law_great", none), "_law_great", "_law_great", defArgs s__law_great, defBody s__law_great, defScope s__law_great, [], []⟩
def d__law_drum : He.DefD := ⟨("_law_drum", none), "_law_drum", "_law_drum", defArgs s__law_drum, defBody s__law_drum, defScope s__law_drum, [], []⟩
def d__law_begins : He.DefD := ⟨("_law_begins", none), "_law_begins", "_law_begins", defArgs s__law_begins, defBody s__law_begins, defScope s__law_begins, [], []⟩
def d__law_common : He.DefD := ⟨("_law_common", none), "_law_common", "_law_common", defArgs s__law_common, defBody s__law_common, defScope s__law_common, [], []⟩
def d__law_roll : He.DefD := ⟨("_law_roll", none), "_law_roll", "_law_roll", defArgs s__law_roll, defBody s__law_roll, defScope s__law_roll, [], []⟩
def d__law_face : He.DefD := ⟨("_law_face", none), "_law_face", "_law_face", defArgs s__law_face, defBody s__law_face, defScope s__law_face, [], []⟩
def d__law_drawn : He.DefD := ⟨("_law_drawn", none), "_law_drawn", "_law_drawn", defArgs s__law_drawn, defBody s__law_drawn, defScope s__law_drawn, [], []⟩
def d__law_within : He.DefD := ⟨("_law_within", none), "_law_within", "_law_within", defArgs s__law_within, defBody s__law_within, defScope s__law_within, [], []⟩
def d__law_all_within : He.DefD := ⟨("_law_all_within", none), "_law_all_within", "_law_all_within", defArgs s__law_all_within, defBody s__law_all_within, defScope s__law_all_within, [], []⟩
def d__law_beside : He.DefD := ⟨("_law_beside", none), "_law_beside", "_law_beside", defArgs s__law_beside, defBody s__law_beside, defScope s__law_beside, [], []⟩
def d__law_told : He.DefD := ⟨("_law_told", none), "_law_told", "_law_told", defArgs s__law_told, defBody s__law_told, defScope s__law_told, [], []⟩
def d_law : He.DefD := ⟨("law", none), "law", "law", defArgs s_law, defBody s_law, defScope s_law, [], []⟩
def fn : List He.DefD := [d_is_whole, d_is_from, d_is_below, d_check_turn, d_check_cell, d_check_length, d_check_below, d_check_face, d_check_beats, d_is_word, d_is_tuple_of, d_is_face, d_beneath, d_above, d_piece, d_apart, d_on_way, d_amid, d_reach, d_ends, d_middle, d__met, d__sectors, d__ground, d__lone, d__rise, d__widened, d__amidst, d_Drumu__initu_, d_Drum_first, d_Drum_step, d_Drum_size, d_Drum_begins, d_Drum_where, d_Drumu_turn_of, d__law_source_of, d__law_next, d__law_one, d__law_cell_at, d__law_great, d__law_drum, d__law_begins, d__law_common, d__law_roll, d__law_face, d__law_drawn, d__law_within, d__law_all_within, d__law_beside, d__law_told, d_law]
def fa : List He.Fa := [.glo "is_whole", .glo "is_from", .glo "is_below", .glo "check_turn", .glo "check_cell", .glo "check_length", .glo "check_below", .glo "check_face", .glo "check_beats", .glo "is_word", .glo "is_tuple_of", .glo "is_face", .glo "beneath", .glo "above", .glo "piece", .glo "apart", .glo "on_way", .glo "amid", .glo "reach", .glo "ends", .glo "middle", .glo "_met", .glo "_sectors", .glo "_ground", .glo "_lone", .glo "_rise", .glo "_widened", .glo "_amidst", .meth "Drum" "first", .meth "Drum" "step", .meth "Drum" "size", .meth "Drum" "begins", .meth "Drum" "where", .meth "Drum" "_turn_of", .glo "_law_source_of", .glo "_law_next", .glo "_law_one", .glo "_law_cell_at", .glo "_law_great", .glo "_law_drum", .glo "_law_begins", .glo "_law_common", .glo "_law_roll", .glo "_law_face", .glo "_law_drawn", .glo "_law_within", .glo "_law_all_within", .glo "_law_beside", .glo "_law_told", .glo "law", .glo "Drum", .cls "Drum", .mkr "Drum", .noat "Drum" "_first", .noat "Drum" "_step", .free "bool", .free "int", .free "isinstance", .free "len", .free "max", .free "min", .free "range", .free "sorted", .free "str", .free "tuple", .int "TOO_GREAT" 1000000000000000]
def bi : List (Str × String) := [("gcd", "math.gcd"), ("isqrt", "math.isqrt")]
/-- what the walk asks of the text as the top has made it -/
structure Txt (K : PySem.W.Frag) (mg : Str → Option Value) : Prop where
  g_is_whole : mg "is_whole" = some (.ref (He.ga K "is_whole"))
  g_is_from : mg "is_from" = some (.ref (He.ga K "is_from"))
  g_is_below : mg "is_below" = some (.ref (He.ga K "is_below"))
  g_check_turn : mg "check_turn" = some (.ref (He.ga K "check_turn"))
  g_check_cell : mg "check_cell" = some (.ref (He.ga K "check_cell"))
  g_check_length : mg "check_length" = some (.ref (He.ga K "check_length"))
  g_check_below : mg "check_below" = some (.ref (He.ga K "check_below"))
  g_check_face : mg "check_face" = some (.ref (He.ga K "check_face"))
  g_check_beats : mg "check_beats" = some (.ref (He.ga K "check_beats"))
  g_is_word : mg "is_word" = some (.ref (He.ga K "is_word"))
  g_is_tuple_of : mg "is_tuple_of" = some (.ref (He.ga K "is_tuple_of"))
  g_is_face : mg "is_face" = some (.ref (He.ga K "is_face"))
  g_beneath : mg "beneath" = some (.ref (He.ga K "beneath"))
  g_above : mg "above" = some (.ref (He.ga K "above"))
  g_piece : mg "piece" = some (.ref (He.ga K "piece"))
  g_apart : mg "apart" = some (.ref (He.ga K "apart"))
  g_on_way : mg "on_way" = some (.ref (He.ga K "on_way"))
  g_amid : mg "amid" = some (.ref (He.ga K "amid"))
  g_reach : mg "reach" = some (.ref (He.ga K "reach"))
  g_ends : mg "ends" = some (.ref (He.ga K "ends"))
  g_middle : mg "middle" = some (.ref (He.ga K "middle"))
  g__met : mg "_met" = some (.ref (He.ga K "_met"))
  g__sectors : mg "_sectors" = some (.ref (He.ga K "_sectors"))
  g__ground : mg "_ground" = some (.ref (He.ga K "_ground"))
  g__lone : mg "_lone" = some (.ref (He.ga K "_lone"))
  g__rise : mg "_rise" = some (.ref (He.ga K "_rise"))
  g__widened : mg "_widened" = some (.ref (He.ga K "_widened"))
  g__amidst : mg "_amidst" = some (.ref (He.ga K "_amidst"))
  m_Drum_first : Meth K (He.ga K "Drum") "first" (He.ma K (He.ga K "Drum") "first")
  m_Drum_step : Meth K (He.ga K "Drum") "step" (He.ma K (He.ga K "Drum") "step")
  m_Drum_size : Meth K (He.ga K "Drum") "size" (He.ma K (He.ga K "Drum") "size")
  m_Drum_begins : Meth K (He.ga K "Drum") "begins" (He.ma K (He.ga K "Drum") "begins")
  m_Drum_where : Meth K (He.ga K "Drum") "where" (He.ma K (He.ga K "Drum") "where")
  m_Drumu_turn_of : Meth K (He.ga K "Drum") "_turn_of" (He.ma K (He.ga K "Drum") "_turn_of")
  g__law_source_of : mg "_law_source_of" = some (.ref (He.ga K "_law_source_of"))
  g__law_next : mg "_law_next" = some (.ref (He.ga K "_law_next"))
  g__law_one : mg "_law_one" = some (.ref (He.ga K "_law_one"))
  g__law_cell_at : mg "_law_cell_at" = some (.ref (He.ga K "_law_cell_at"))
  g__law_great : mg "_law_great" = some (.ref (He.ga K "_law_great"))
  g__law_drum : mg "_law_drum" = some (.ref (He.ga K "_law_drum"))
  g__law_begins : mg "_law_begins" = some (.ref (He.ga K "_law_begins"))
  g__law_common : mg "_law_common" = some (.ref (He.ga K "_law_common"))
  g__law_roll : mg "_law_roll" = some (.ref (He.ga K "_law_roll"))
  g__law_face : mg "_law_face" = some (.ref (He.ga K "_law_face"))
  g__law_drawn : mg "_law_drawn" = some (.ref (He.ga K "_law_drawn"))
  g__law_within : mg "_law_within" = some (.ref (He.ga K "_law_within"))
  g__law_all_within : mg "_law_all_within" = some (.ref (He.ga K "_law_all_within"))
  g__law_beside : mg "_law_beside" = some (.ref (He.ga K "_law_beside"))
  g__law_told : mg "_law_told" = some (.ref (He.ga K "_law_told"))
  g_law : mg "law" = some (.ref (He.ga K "law"))
  g_Drum : mg "Drum" = some (.ref (He.ga K "Drum"))
  cl_Drum : Cls K (He.ga K "Drum")
  mk_Drum : Mk K (He.ga K "Drum") (He.ma K (He.ga K "Drum") "__init__")
  n_first : NoAttr K (He.ga K "Drum") "_first"
  n_step : NoAttr K (He.ga K "Drum") "_step"
  z_bool : mg "bool" = none
  z_int : mg "int" = none
  z_isinstance : mg "isinstance" = none
  z_len : mg "len" = none
  z_max : mg "max" = none
  z_min : mg "min" = none
  z_range : mg "range" = none
  z_sorted : mg "sorted" = none
  z_str : mg "str" = none
  z_tuple : mg "tuple" = none
  c_TOO_GREAT : ∃ t, mg "TOO_GREAT" = some (.int 1000000000000000 t)
  i_gcd : mg "gcd" = some (.builtin "math.gcd")
  i_isqrt : mg "isqrt" = some (.builtin "math.isqrt")
  f_is_whole : ∃ fd, FunD K d_is_whole.name d_is_whole.qual d_is_whole.params d_is_whole.body d_is_whole.scope (d_is_whole.dvs K) (d_is_whole.kws K) (He.fAd K d_is_whole.at_) fd
  k_is_whole : PySem.W.keepIn K (.ref (He.ga K "is_whole")) = true
  f_is_from : ∃ fd, FunD K d_is_from.name d_is_from.qual d_is_from.params d_is_from.body d_is_from.scope (d_is_from.dvs K) (d_is_from.kws K) (He.fAd K d_is_from.at_) fd
  k_is_from : PySem.W.keepIn K (.ref (He.ga K "is_from")) = true
  f_is_below : ∃ fd, FunD K d_is_below.name d_is_below.qual d_is_below.params d_is_below.body d_is_below.scope (d_is_below.dvs K) (d_is_below.kws K) (He.fAd K d_is_below.at_) fd
  k_is_below : PySem.W.keepIn K (.ref (He.ga K "is_below")) = true
  f_check_turn : ∃ fd, FunD K d_check_turn.name d_check_turn.qual d_check_turn.params d_check_turn.body d_check_turn.scope (d_check_turn.dvs K) (d_check_turn.kws K) (He.fAd K d_check_turn.at_) fd
  k_check_turn : PySem.W.keepIn K (.ref (He.ga K "check_turn")) = true
  f_check_cell : ∃ fd, FunD K d_check_cell.name d_check_cell.qual d_check_cell.params d_check_cell.body d_check_cell.scope (d_check_cell.dvs K) (d_check_cell.kws K) (He.fAd K d_check_cell.at_) fd
  k_check_cell : PySem.W.keepIn K (.ref (He.ga K "check_cell")) = true
  f_check_length : ∃ fd, FunD K d_check_length.name d_check_length.qual d_check_length.params d_check_length.body d_check_length.scope (d_check_length.dvs K) (d_check_length.kws K) (He.fAd K d_check_length.at_) fd
  k_check_length : PySem.W.keepIn K (.ref (He.ga K "check_length")) = true
  f_check_below : ∃ fd, FunD K d_check_below.name d_check_below.qual d_check_below.params d_check_below.body d_check_below.scope (d_check_below.dvs K) (d_check_below.kws K) (He.fAd K d_check_below.at_) fd
  k_check_below : PySem.W.keepIn K (.ref (He.ga K "check_below")) = true
  f_check_face : ∃ fd, FunD K d_check_face.name d_check_face.qual d_check_face.params d_check_face.body d_check_face.scope (d_check_face.dvs K) (d_check_face.kws K) (He.fAd K d_check_face.at_) fd
  k_check_face : PySem.W.keepIn K (.ref (He.ga K "check_face")) = true
  f_check_beats : ∃ fd, FunD K d_check_beats.name d_check_beats.qual d_check_beats.params d_check_beats.body d_check_beats.scope (d_check_beats.dvs K) (d_check_beats.kws K) (He.fAd K d_check_beats.at_) fd
  k_check_beats : PySem.W.keepIn K (.ref (He.ga K "check_beats")) = true
  f_is_word : ∃ fd, FunD K d_is_word.name d_is_word.qual d_is_word.params d_is_word.body d_is_word.scope (d_is_word.dvs K) (d_is_word.kws K) (He.fAd K d_is_word.at_) fd
  k_is_word : PySem.W.keepIn K (.ref (He.ga K "is_word")) = true
  f_is_tuple_of : ∃ fd, FunD K d_is_tuple_of.name d_is_tuple_of.qual d_is_tuple_of.params d_is_tuple_of.body d_is_tuple_of.scope (d_is_tuple_of.dvs K) (d_is_tuple_of.kws K) (He.fAd K d_is_tuple_of.at_) fd
  k_is_tuple_of : PySem.W.keepIn K (.ref (He.ga K "is_tuple_of")) = true
  f_is_face : ∃ fd, FunD K d_is_face.name d_is_face.qual d_is_face.params d_is_face.body d_is_face.scope (d_is_face.dvs K) (d_is_face.kws K) (He.fAd K d_is_face.at_) fd
  k_is_face : PySem.W.keepIn K (.ref (He.ga K "is_face")) = true
  f_beneath : ∃ fd, FunD K d_beneath.name d_beneath.qual d_beneath.params d_beneath.body d_beneath.scope (d_beneath.dvs K) (d_beneath.kws K) (He.fAd K d_beneath.at_) fd
  k_beneath : PySem.W.keepIn K (.ref (He.ga K "beneath")) = true
  f_above : ∃ fd, FunD K d_above.name d_above.qual d_above.params d_above.body d_above.scope (d_above.dvs K) (d_above.kws K) (He.fAd K d_above.at_) fd
  k_above : PySem.W.keepIn K (.ref (He.ga K "above")) = true
  f_piece : ∃ fd, FunD K d_piece.name d_piece.qual d_piece.params d_piece.body d_piece.scope (d_piece.dvs K) (d_piece.kws K) (He.fAd K d_piece.at_) fd
  k_piece : PySem.W.keepIn K (.ref (He.ga K "piece")) = true
  f_apart : ∃ fd, FunD K d_apart.name d_apart.qual d_apart.params d_apart.body d_apart.scope (d_apart.dvs K) (d_apart.kws K) (He.fAd K d_apart.at_) fd
  k_apart : PySem.W.keepIn K (.ref (He.ga K "apart")) = true
  f_on_way : ∃ fd, FunD K d_on_way.name d_on_way.qual d_on_way.params d_on_way.body d_on_way.scope (d_on_way.dvs K) (d_on_way.kws K) (He.fAd K d_on_way.at_) fd
  k_on_way : PySem.W.keepIn K (.ref (He.ga K "on_way")) = true
  f_amid : ∃ fd, FunD K d_amid.name d_amid.qual d_amid.params d_amid.body d_amid.scope (d_amid.dvs K) (d_amid.kws K) (He.fAd K d_amid.at_) fd
  k_amid : PySem.W.keepIn K (.ref (He.ga K "amid")) = true
  f_reach : ∃ fd, FunD K d_reach.name d_reach.qual d_reach.params d_reach.body d_reach.scope (d_reach.dvs K) (d_reach.kws K) (He.fAd K d_reach.at_) fd
  k_reach : PySem.W.keepIn K (.ref (He.ga K "reach")) = true
  f_ends : ∃ fd, FunD K d_ends.name d_ends.qual d_ends.params d_ends.body d_ends.scope (d_ends.dvs K) (d_ends.kws K) (He.fAd K d_ends.at_) fd
  k_ends : PySem.W.keepIn K (.ref (He.ga K "ends")) = true
  f_middle : ∃ fd, FunD K d_middle.name d_middle.qual d_middle.params d_middle.body d_middle.scope (d_middle.dvs K) (d_middle.kws K) (He.fAd K d_middle.at_) fd
  k_middle : PySem.W.keepIn K (.ref (He.ga K "middle")) = true
  f__met : ∃ fd, FunD K d__met.name d__met.qual d__met.params d__met.body d__met.scope (d__met.dvs K) (d__met.kws K) (He.fAd K d__met.at_) fd
  k__met : PySem.W.keepIn K (.ref (He.ga K "_met")) = true
  f__sectors : ∃ fd, FunD K d__sectors.name d__sectors.qual d__sectors.params d__sectors.body d__sectors.scope (d__sectors.dvs K) (d__sectors.kws K) (He.fAd K d__sectors.at_) fd
  k__sectors : PySem.W.keepIn K (.ref (He.ga K "_sectors")) = true
  f__ground : ∃ fd, FunD K d__ground.name d__ground.qual d__ground.params d__ground.body d__ground.scope (d__ground.dvs K) (d__ground.kws K) (He.fAd K d__ground.at_) fd
  k__ground : PySem.W.keepIn K (.ref (He.ga K "_ground")) = true
  f__lone : ∃ fd, FunD K d__lone.name d__lone.qual d__lone.params d__lone.body d__lone.scope (d__lone.dvs K) (d__lone.kws K) (He.fAd K d__lone.at_) fd
  k__lone : PySem.W.keepIn K (.ref (He.ga K "_lone")) = true
  f__rise : ∃ fd, FunD K d__rise.name d__rise.qual d__rise.params d__rise.body d__rise.scope (d__rise.dvs K) (d__rise.kws K) (He.fAd K d__rise.at_) fd
  k__rise : PySem.W.keepIn K (.ref (He.ga K "_rise")) = true
  f__widened : ∃ fd, FunD K d__widened.name d__widened.qual d__widened.params d__widened.body d__widened.scope (d__widened.dvs K) (d__widened.kws K) (He.fAd K d__widened.at_) fd
  k__widened : PySem.W.keepIn K (.ref (He.ga K "_widened")) = true
  f__amidst : ∃ fd, FunD K d__amidst.name d__amidst.qual d__amidst.params d__amidst.body d__amidst.scope (d__amidst.dvs K) (d__amidst.kws K) (He.fAd K d__amidst.at_) fd
  k__amidst : PySem.W.keepIn K (.ref (He.ga K "_amidst")) = true
  f_Drumu__initu_ : ∃ fd, FunD K d_Drumu__initu_.name d_Drumu__initu_.qual d_Drumu__initu_.params d_Drumu__initu_.body d_Drumu__initu_.scope (d_Drumu__initu_.dvs K) (d_Drumu__initu_.kws K) (He.fAd K d_Drumu__initu_.at_) fd
  f_Drum_first : ∃ fd, FunD K d_Drum_first.name d_Drum_first.qual d_Drum_first.params d_Drum_first.body d_Drum_first.scope (d_Drum_first.dvs K) (d_Drum_first.kws K) (He.fAd K d_Drum_first.at_) fd
  f_Drum_step : ∃ fd, FunD K d_Drum_step.name d_Drum_step.qual d_Drum_step.params d_Drum_step.body d_Drum_step.scope (d_Drum_step.dvs K) (d_Drum_step.kws K) (He.fAd K d_Drum_step.at_) fd
  f_Drum_size : ∃ fd, FunD K d_Drum_size.name d_Drum_size.qual d_Drum_size.params d_Drum_size.body d_Drum_size.scope (d_Drum_size.dvs K) (d_Drum_size.kws K) (He.fAd K d_Drum_size.at_) fd
  f_Drum_begins : ∃ fd, FunD K d_Drum_begins.name d_Drum_begins.qual d_Drum_begins.params d_Drum_begins.body d_Drum_begins.scope (d_Drum_begins.dvs K) (d_Drum_begins.kws K) (He.fAd K d_Drum_begins.at_) fd
  f_Drum_where : ∃ fd, FunD K d_Drum_where.name d_Drum_where.qual d_Drum_where.params d_Drum_where.body d_Drum_where.scope (d_Drum_where.dvs K) (d_Drum_where.kws K) (He.fAd K d_Drum_where.at_) fd
  f_Drumu_turn_of : ∃ fd, FunD K d_Drumu_turn_of.name d_Drumu_turn_of.qual d_Drumu_turn_of.params d_Drumu_turn_of.body d_Drumu_turn_of.scope (d_Drumu_turn_of.dvs K) (d_Drumu_turn_of.kws K) (He.fAd K d_Drumu_turn_of.at_) fd
  f__law_source_of : ∃ fd, FunD K d__law_source_of.name d__law_source_of.qual d__law_source_of.params d__law_source_of.body d__law_source_of.scope (d__law_source_of.dvs K) (d__law_source_of.kws K) (He.fAd K d__law_source_of.at_) fd
  k__law_source_of : PySem.W.keepIn K (.ref (He.ga K "_law_source_of")) = true
  f__law_next : ∃ fd, FunD K d__law_next.name d__law_next.qual d__law_next.params d__law_next.body d__law_next.scope (d__law_next.dvs K) (d__law_next.kws K) (He.fAd K d__law_next.at_) fd
  k__law_next : PySem.W.keepIn K (.ref (He.ga K "_law_next")) = true
  f__law_one : ∃ fd, FunD K d__law_one.name d__law_one.qual d__law_one.params d__law_one.body d__law_one.scope (d__law_one.dvs K) (d__law_one.kws K) (He.fAd K d__law_one.at_) fd
  k__law_one : PySem.W.keepIn K (.ref (He.ga K "_law_one")) = true
  f__law_cell_at : ∃ fd, FunD K d__law_cell_at.name d__law_cell_at.qual d__law_cell_at.params d__law_cell_at.body d__law_cell_at.scope (d__law_cell_at.dvs K) (d__law_cell_at.kws K) (He.fAd K d__law_cell_at.at_) fd
  k__law_cell_at : PySem.W.keepIn K (.ref (He.ga K "_law_cell_at")) = true
  f__law_great : ∃ fd, FunD K d__law_great.name d__law_great.qual d__law_great.params d__law_great.body d__law_great.scope (d__law_great.dvs K) (d__law_great.kws K) (He.fAd K d__law_great.at_) fd
  k__law_great : PySem.W.keepIn K (.ref (He.ga K "_law_great")) = true
  f__law_drum : ∃ fd, FunD K d__law_drum.name d__law_drum.qual d__law_drum.params d__law_drum.body d__law_drum.scope (d__law_drum.dvs K) (d__law_drum.kws K) (He.fAd K d__law_drum.at_) fd
  k__law_drum : PySem.W.keepIn K (.ref (He.ga K "_law_drum")) = true
  f__law_begins : ∃ fd, FunD K d__law_begins.name d__law_begins.qual d__law_begins.params d__law_begins.body d__law_begins.scope (d__law_begins.dvs K) (d__law_begins.kws K) (He.fAd K d__law_begins.at_) fd
  k__law_begins : PySem.W.keepIn K (.ref (He.ga K "_law_begins")) = true
  f__law_common : ∃ fd, FunD K d__law_common.name d__law_common.qual d__law_common.params d__law_common.body d__law_common.scope (d__law_common.dvs K) (d__law_common.kws K) (He.fAd K d__law_common.at_) fd
  k__law_common : PySem.W.keepIn K (.ref (He.ga K "_law_common")) = true
  f__law_roll : ∃ fd, FunD K d__law_roll.name d__law_roll.qual d__law_roll.params d__law_roll.body d__law_roll.scope (d__law_roll.dvs K) (d__law_roll.kws K) (He.fAd K d__law_roll.at_) fd
  k__law_roll : PySem.W.keepIn K (.ref (He.ga K "_law_roll")) = true
  f__law_face : ∃ fd, FunD K d__law_face.name d__law_face.qual d__law_face.params d__law_face.body d__law_face.scope (d__law_face.dvs K) (d__law_face.kws K) (He.fAd K d__law_face.at_) fd
  k__law_face : PySem.W.keepIn K (.ref (He.ga K "_law_face")) = true
  f__law_drawn : ∃ fd, FunD K d__law_drawn.name d__law_drawn.qual d__law_drawn.params d__law_drawn.body d__law_drawn.scope (d__law_drawn.dvs K) (d__law_drawn.kws K) (He.fAd K d__law_drawn.at_) fd
  k__law_drawn : PySem.W.keepIn K (.ref (He.ga K "_law_drawn")) = true
  f__law_within : ∃ fd, FunD K d__law_within.name d__law_within.qual d__law_within.params d__law_within.body d__law_within.scope (d__law_within.dvs K) (d__law_within.kws K) (He.fAd K d__law_within.at_) fd
  k__law_within : PySem.W.keepIn K (.ref (He.ga K "_law_within")) = true
  f__law_all_within : ∃ fd, FunD K d__law_all_within.name d__law_all_within.qual d__law_all_within.params d__law_all_within.body d__law_all_within.scope (d__law_all_within.dvs K) (d__law_all_within.kws K) (He.fAd K d__law_all_within.at_) fd
  k__law_all_within : PySem.W.keepIn K (.ref (He.ga K "_law_all_within")) = true
  f__law_beside : ∃ fd, FunD K d__law_beside.name d__law_beside.qual d__law_beside.params d__law_beside.body d__law_beside.scope (d__law_beside.dvs K) (d__law_beside.kws K) (He.fAd K d__law_beside.at_) fd
  k__law_beside : PySem.W.keepIn K (.ref (He.ga K "_law_beside")) = true
  f__law_told : ∃ fd, FunD K d__law_told.name d__law_told.qual d__law_told.params d__law_told.body d__law_told.scope (d__law_told.dvs K) (d__law_told.kws K) (He.fAd K d__law_told.at_) fd
  k__law_told : PySem.W.keepIn K (.ref (He.ga K "_law_told")) = true
  f_law : ∃ fd, FunD K d_law.name d_law.qual d_law.params d_law.body d_law.scope (d_law.dvs K) (d_law.kws K) (He.fAd K d_law.at_) fd
  k_law : PySem.W.keepIn K (.ref (He.ga K "law")) = true
theorem txt {K : PySem.W.Frag} {h : Heap} {mg : Str → Option Value} (X : K.In h) (G : h.Ns mainGlobals mg) (c : He.SaysD fa fn K) (b : ∀ q ∈ bi, bfn K q = true) : Txt K mg where
  g_is_whole := He.glo_ok X G (c.fact 0 (f := .glo "is_whole") rfl)
  g_is_from := He.glo_ok X G (c.fact 1 (f := .glo "is_from") rfl)
  g_is_below := He.glo_ok X G (c.fact 2 (f := .glo "is_below") rfl)
  g_check_turn := He.glo_ok X G (c.fact 3 (f := .glo "check_turn") rfl)
  g_check_cell := He.glo_ok X G (c.fact 4 (f := .glo "check_cell") rfl)
  g_check_length := He.glo_ok X G (c.fact 5 (f := .glo "check_length") rfl)
  g_check_below := He.glo_ok X G (c.fact 6 (f := .glo "check_below") rfl)
  g_check_face := He.glo_ok X G (c.fact 7 (f := .glo "check_face") rfl)
  g_check_beats := He.glo_ok X G (c.fact 8 (f := .glo "check_beats") rfl)
  g_is_word := He.glo_ok X G (c.fact 9 (f := .glo "is_word") rfl)
  g_is_tuple_of := He.glo_ok X G (c.fact 10 (f := .glo "is_tuple_of") rfl)
  g_is_face := He.glo_ok X G (c.fact 11 (f := .glo "is_face") rfl)
  g_beneath := He.glo_ok X G (c.fact 12 (f := .glo "beneath") rfl)
  g_above := He.glo_ok X G (c.fact 13 (f := .glo "above") rfl)
  g_piece := He.glo_ok X G (c.fact 14 (f := .glo "piece") rfl)
  g_apart := He.glo_ok X G (c.fact 15 (f := .glo "apart") rfl)
  g_on_way := He.glo_ok X G (c.fact 16 (f := .glo "on_way") rfl)
  g_amid := He.glo_ok X G (c.fact 17 (f := .glo "amid") rfl)
  g_reach := He.glo_ok X G (c.fact 18 (f := .glo "reach") rfl)
  g_ends := He.glo_ok X G (c.fact 19 (f := .glo "ends") rfl)
  g_middle := He.glo_ok X G (c.fact 20 (f := .glo "middle") rfl)
  g__met := He.glo_ok X G (c.fact 21 (f := .glo "_met") rfl)
  g__sectors := He.glo_ok X G (c.fact 22 (f := .glo "_sectors") rfl)
  g__ground := He.glo_ok X G (c.fact 23 (f := .glo "_ground") rfl)
  g__lone := He.glo_ok X G (c.fact 24 (f := .glo "_lone") rfl)
  g__rise := He.glo_ok X G (c.fact 25 (f := .glo "_rise") rfl)
  g__widened := He.glo_ok X G (c.fact 26 (f := .glo "_widened") rfl)
  g__amidst := He.glo_ok X G (c.fact 27 (f := .glo "_amidst") rfl)
  m_Drum_first := He.meth_ok (c.fact 28 (f := .meth "Drum" "first") rfl)
  m_Drum_step := He.meth_ok (c.fact 29 (f := .meth "Drum" "step") rfl)
  m_Drum_size := He.meth_ok (c.fact 30 (f := .meth "Drum" "size") rfl)
  m_Drum_begins := He.meth_ok (c.fact 31 (f := .meth "Drum" "begins") rfl)
  m_Drum_where := He.meth_ok (c.fact 32 (f := .meth "Drum" "where") rfl)
  m_Drumu_turn_of := He.meth_ok (c.fact 33 (f := .meth "Drum" "_turn_of") rfl)
  g__law_source_of := He.glo_ok X G (c.fact 34 (f := .glo "_law_source_of") rfl)
  g__law_next := He.glo_ok X G (c.fact 35 (f := .glo "_law_next") rfl)
  g__law_one := He.glo_ok X G (c.fact 36 (f := .glo "_law_one") rfl)
  g__law_cell_at := He.glo_ok X G (c.fact 37 (f := .glo "_law_cell_at") rfl)
  g__law_great := He.glo_ok X G (c.fact 38 (f := .glo "_law_great") rfl)
  g__law_drum := He.glo_ok X G (c.fact 39 (f := .glo "_law_drum") rfl)
  g__law_begins := He.glo_ok X G (c.fact 40 (f := .glo "_law_begins") rfl)
  g__law_common := He.glo_ok X G (c.fact 41 (f := .glo "_law_common") rfl)
  g__law_roll := He.glo_ok X G (c.fact 42 (f := .glo "_law_roll") rfl)
  g__law_face := He.glo_ok X G (c.fact 43 (f := .glo "_law_face") rfl)
  g__law_drawn := He.glo_ok X G (c.fact 44 (f := .glo "_law_drawn") rfl)
  g__law_within := He.glo_ok X G (c.fact 45 (f := .glo "_law_within") rfl)
  g__law_all_within := He.glo_ok X G (c.fact 46 (f := .glo "_law_all_within") rfl)
  g__law_beside := He.glo_ok X G (c.fact 47 (f := .glo "_law_beside") rfl)
  g__law_told := He.glo_ok X G (c.fact 48 (f := .glo "_law_told") rfl)
  g_law := He.glo_ok X G (c.fact 49 (f := .glo "law") rfl)
  g_Drum := He.glo_ok X G (c.fact 50 (f := .glo "Drum") rfl)
  cl_Drum := He.cls_ok (c.fact 51 (f := .cls "Drum") rfl)
  mk_Drum := He.mkr_ok (c.fact 52 (f := .mkr "Drum") rfl)
  n_first := He.noat_ok (c.fact 53 (f := .noat "Drum" "_first") rfl)
  n_step := He.noat_ok (c.fact 54 (f := .noat "Drum" "_step") rfl)
  z_bool := He.free_ok X G (c.fact 55 (f := .free "bool") rfl)
  z_int := He.free_ok X G (c.fact 56 (f := .free "int") rfl)
  z_isinstance := He.free_ok X G (c.fact 57 (f := .free "isinstance") rfl)
  z_len := He.free_ok X G (c.fact 58 (f := .free "len") rfl)
  z_max := He.free_ok X G (c.fact 59 (f := .free "max") rfl)
  z_min := He.free_ok X G (c.fact 60 (f := .free "min") rfl)
  z_range := He.free_ok X G (c.fact 61 (f := .free "range") rfl)
  z_sorted := He.free_ok X G (c.fact 62 (f := .free "sorted") rfl)
  z_str := He.free_ok X G (c.fact 63 (f := .free "str") rfl)
  z_tuple := He.free_ok X G (c.fact 64 (f := .free "tuple") rfl)
  c_TOO_GREAT := He.int_ok X G (c.fact 65 (f := .int "TOO_GREAT" 1000000000000000) rfl)
  i_gcd := bfn_ok X G (b _ (List.mem_of_getElem? (show bi[0]? = _ from rfl)))
  i_isqrt := bfn_ok X G (b _ (List.mem_of_getElem? (show bi[1]? = _ from rfl)))
  f_is_whole := c.def_ 0 (d := d_is_whole) rfl
  k_is_whole := (c.def_ 0 (d := d_is_whole) rfl).elim fun _ F => F.kp
  f_is_from := c.def_ 1 (d := d_is_from) rfl
  k_is_from := (c.def_ 1 (d := d_is_from) rfl).elim fun _ F => F.kp
  f_is_below := c.def_ 2 (d := d_is_below) rfl
  k_is_below := (c.def_ 2 (d := d_is_below) rfl).elim fun _ F => F.kp
  f_check_turn := c.def_ 3 (d := d_check_turn) rfl
  k_check_turn := (c.def_ 3 (d := d_check_turn) rfl).elim fun _ F => F.kp
  f_check_cell := c.def_ 4 (d := d_check_cell) rfl
  k_check_cell := (c.def_ 4 (d := d_check_cell) rfl).elim fun _ F => F.kp
  f_check_length := c.def_ 5 (d := d_check_length) rfl
  k_check_length := (c.def_ 5 (d := d_check_length) rfl).elim fun _ F => F.kp
  f_check_below := c.def_ 6 (d := d_check_below) rfl
  k_check_below := (c.def_ 6 (d := d_check_below) rfl).elim fun _ F => F.kp
  f_check_face := c.def_ 7 (d := d_check_face) rfl
  k_check_face := (c.def_ 7 (d := d_check_face) rfl).elim fun _ F => F.kp
  f_check_beats := c.def_ 8 (d := d_check_beats) rfl
  k_check_beats := (c.def_ 8 (d := d_check_beats) rfl).elim fun _ F => F.kp
  f_is_word := c.def_ 9 (d := d_is_word) rfl
  k_is_word := (c.def_ 9 (d := d_is_word) rfl).elim fun _ F => F.kp
  f_is_tuple_of := c.def_ 10 (d := d_is_tuple_of) rfl
  k_is_tuple_of := (c.def_ 10 (d := d_is_tuple_of) rfl).elim fun _ F => F.kp
  f_is_face := c.def_ 11 (d := d_is_face) rfl
  k_is_face := (c.def_ 11 (d := d_is_face) rfl).elim fun _ F => F.kp
  f_beneath := c.def_ 12 (d := d_beneath) rfl
  k_beneath := (c.def_ 12 (d := d_beneath) rfl).elim fun _ F => F.kp
  f_above := c.def_ 13 (d := d_above) rfl
  k_above := (c.def_ 13 (d := d_above) rfl).elim fun _ F => F.kp
  f_piece := c.def_ 14 (d := d_piece) rfl
  k_piece := (c.def_ 14 (d := d_piece) rfl).elim fun _ F => F.kp
  f_apart := c.def_ 15 (d := d_apart) rfl
  k_apart := (c.def_ 15 (d := d_apart) rfl).elim fun _ F => F.kp
  f_on_way := c.def_ 16 (d := d_on_way) rfl
  k_on_way := (c.def_ 16 (d := d_on_way) rfl).elim fun _ F => F.kp
  f_amid := c.def_ 17 (d := d_amid) rfl
  k_amid := (c.def_ 17 (d := d_amid) rfl).elim fun _ F => F.kp
  f_reach := c.def_ 18 (d := d_reach) rfl
  k_reach := (c.def_ 18 (d := d_reach) rfl).elim fun _ F => F.kp
  f_ends := c.def_ 19 (d := d_ends) rfl
  k_ends := (c.def_ 19 (d := d_ends) rfl).elim fun _ F => F.kp
  f_middle := c.def_ 20 (d := d_middle) rfl
  k_middle := (c.def_ 20 (d := d_middle) rfl).elim fun _ F => F.kp
  f__met := c.def_ 21 (d := d__met) rfl
  k__met := (c.def_ 21 (d := d__met) rfl).elim fun _ F => F.kp
  f__sectors := c.def_ 22 (d := d__sectors) rfl
  k__sectors := (c.def_ 22 (d := d__sectors) rfl).elim fun _ F => F.kp
  f__ground := c.def_ 23 (d := d__ground) rfl
  k__ground := (c.def_ 23 (d := d__ground) rfl).elim fun _ F => F.kp
  f__lone := c.def_ 24 (d := d__lone) rfl
  k__lone := (c.def_ 24 (d := d__lone) rfl).elim fun _ F => F.kp
  f__rise := c.def_ 25 (d := d__rise) rfl
  k__rise := (c.def_ 25 (d := d__rise) rfl).elim fun _ F => F.kp
  f__widened := c.def_ 26 (d := d__widened) rfl
  k__widened := (c.def_ 26 (d := d__widened) rfl).elim fun _ F => F.kp
  f__amidst := c.def_ 27 (d := d__amidst) rfl
  k__amidst := (c.def_ 27 (d := d__amidst) rfl).elim fun _ F => F.kp
  f_Drumu__initu_ := c.def_ 28 (d := d_Drumu__initu_) rfl
  f_Drum_first := c.def_ 29 (d := d_Drum_first) rfl
  f_Drum_step := c.def_ 30 (d := d_Drum_step) rfl
  f_Drum_size := c.def_ 31 (d := d_Drum_size) rfl
  f_Drum_begins := c.def_ 32 (d := d_Drum_begins) rfl
  f_Drum_where := c.def_ 33 (d := d_Drum_where) rfl
  f_Drumu_turn_of := c.def_ 34 (d := d_Drumu_turn_of) rfl
  f__law_source_of := c.def_ 35 (d := d__law_source_of) rfl
  k__law_source_of := (c.def_ 35 (d := d__law_source_of) rfl).elim fun _ F => F.kp
  f__law_next := c.def_ 36 (d := d__law_next) rfl
  k__law_next := (c.def_ 36 (d := d__law_next) rfl).elim fun _ F => F.kp
  f__law_one := c.def_ 37 (d := d__law_one) rfl
  k__law_one := (c.def_ 37 (d := d__law_one) rfl).elim fun _ F => F.kp
  f__law_cell_at := c.def_ 38 (d := d__law_cell_at) rfl
  k__law_cell_at := (c.def_ 38 (d := d__law_cell_at) rfl).elim fun _ F => F.kp
  f__law_great := c.def_ 39 (d := d__law_great) rfl
  k__law_great := (c.def_ 39 (d := d__law_great) rfl).elim fun _ F => F.kp
  f__law_drum := c.def_ 40 (d := d__law_drum) rfl
  k__law_drum := (c.def_ 40 (d := d__law_drum) rfl).elim fun _ F => F.kp
  f__law_begins := c.def_ 41 (d := d__law_begins) rfl
  k__law_begins := (c.def_ 41 (d := d__law_begins) rfl).elim fun _ F => F.kp
  f__law_common := c.def_ 42 (d := d__law_common) rfl
  k__law_common := (c.def_ 42 (d := d__law_common) rfl).elim fun _ F => F.kp
  f__law_roll := c.def_ 43 (d := d__law_roll) rfl
  k__law_roll := (c.def_ 43 (d := d__law_roll) rfl).elim fun _ F => F.kp
  f__law_face := c.def_ 44 (d := d__law_face) rfl
  k__law_face := (c.def_ 44 (d := d__law_face) rfl).elim fun _ F => F.kp
  f__law_drawn := c.def_ 45 (d := d__law_drawn) rfl
  k__law_drawn := (c.def_ 45 (d := d__law_drawn) rfl).elim fun _ F => F.kp
  f__law_within := c.def_ 46 (d := d__law_within) rfl
  k__law_within := (c.def_ 46 (d := d__law_within) rfl).elim fun _ F => F.kp
  f__law_all_within := c.def_ 47 (d := d__law_all_within) rfl
  k__law_all_within := (c.def_ 47 (d := d__law_all_within) rfl).elim fun _ F => F.kp
  f__law_beside := c.def_ 48 (d := d__law_beside) rfl
  k__law_beside := (c.def_ 48 (d := d__law_beside) rfl).elim fun _ F => F.kp
  f__law_told := c.def_ 49 (d := d__law_told) rfl
  k__law_told := (c.def_ 49 (d := d__law_told) rfl).elim fun _ F => F.kp
  f_law := c.def_ 50 (d := d_law) rfl
  k_law := (c.def_ 50 (d := d_law) rfl).elim fun _ F => F.kp
abbrev hk : PySem.W.Hook := hookB 5 fa fn bi
def ob (s : PySem.W.SharedT) : He.AlD × Bool := obsBG 5 fa fn bi (HandSHeadRun.getT s)
theorem ob_eq (s : PySem.W.SharedT) : ob s = hk.obs s.abs := obsBG_eq (HandSHeadRun.getT_eq s)
def loose : List Str := [("_wall" : Str), ("WetError" : Str), ("BadDrum" : Str), ("NoTurn" : Str), ("NoCell" : Str), ("NoFace" : Str), ("NoBeats" : Str), ("is_whole" : Str), ("is_from" : Str), ("is_below" : Str), ("check_turn" : Str), ("check_cell" : Str), ("check_length" : Str), ("check_below" : Str), ("check_face" : Str), ("check_beats" : Str), ("is_word" : Str), ("is_tuple_of" : Str), ("is_face" : Str), ("beneath" : Str), ("above" : Str), ("piece" : Str), ("apart" : Str), ("on_way" : Str), ("amid" : Str), ("reach" : Str), ("ends" : Str), ("middle" : Str), ("_met" : Str), ("_sectors" : Str), ("_ground" : Str), ("_lone" : Str), ("_rise" : Str), ("_widened" : Str), ("_amidst" : Str), ("TOO_GREAT" : Str), ("Drum" : Str), ("_law_source_of" : Str), ("_law_next" : Str), ("_law_one" : Str), ("_law_cell_at" : Str), ("_law_great" : Str), ("_law_drum" : Str), ("_law_begins" : Str), ("_law_common" : Str), ("_law_roll" : Str), ("_law_face" : Str), ("_law_drawn" : Str), ("_law_within" : Str), ("_law_all_within" : Str), ("_law_beside" : Str), ("_law_told" : Str)]
theorem run (w : World) : HandSHeadRun.RunEqI R (PySem.W.view R.prog [0, 59]) hk ob 6000 loose w := by
  unfold HandSHeadRun.RunEqI
  kernel_rfl
end Wm
/-! Mathematics of drums: where a turn begins, on which turn a cell lies. -/
namespace Wm
/-- where turn t begins -/
def Bg (f s t : Int) : Int := t * f + s * (t * (t - 1) / 2)
theorem tri2 (t : Int) : 2 * (t * (t - 1) / 2) = t * (t - 1) := by
  have h : t * (t - 1) % 2 = 0 := by
    rcases (by omega : t % 2 = 0 ∨ t % 2 = 1) with h | h
    · rw [Int.mul_emod, h]; simp
    · have : (t - 1) % 2 = 0 := by omega
      rw [Int.mul_emod, this]; simp
  omega
theorem bg2 (f s t : Int) : 2 * Bg f s t = 2 * (t * f) + s * (t * (t - 1)) := by
  unfold Bg
  have h := tri2 t
  generalize t * (t - 1) / 2 = d at *
  grind
theorem bg0 (f s : Int) : Bg f s 0 = 0 := by unfold Bg; simp
theorem bg_succ (f s t : Int) : Bg f s (t + 1) = Bg f s t + (f + t * s) := by
  have h1 := bg2 f s t
  have h2 := bg2 f s (t + 1)
  have e : (t + 1) * (t + 1 - 1) = t * (t - 1) + 2 * t := by grind
  rw [e] at h2
  have : 2 * Bg f s (t + 1) = 2 * (Bg f s t + (f + t * s)) := by
    rw [h2]; grind
  omega
/-- on which turn a cell lies -/
def tOf (f s c : Int) : Int :=
  if s = 0 then c / f else
    (((PySem.Float64.isqrt ((2 * f - s) * (2 * f - s) + 8 * s * c).toNat : Nat) : Int) - (2 * f - s)) / (2 * s)
theorem mul_nn {a b : Int} (ha : 0 ≤ a) (hb : 0 ≤ b) : 0 ≤ a * b := Int.mul_nonneg ha hb
theorem sq_nn (a : Int) : 0 ≤ a * a := by
  rcases Int.le_total 0 a with h | h
  · exact Int.mul_nonneg h h
  · have := Int.mul_nonneg (show 0 ≤ -a by omega) (show 0 ≤ -a by omega)
    grind
theorem isq (n : Int) (h : 0 ≤ n) : ∃ r : Int, r = ((PySem.Float64.isqrt n.toNat : Nat) : Int) ∧ 0 ≤ r ∧ r * r ≤ n ∧ n < (r + 1) * (r + 1) := by
  obtain ⟨h1, h2⟩ := PySem.Float64.isqrt_spec n.toNat
  refine ⟨_, rfl, Int.natCast_nonneg _, ?_, ?_⟩
  · have e : ((n.toNat : Nat) : Int) = n := Int.toNat_of_nonneg h
    rw [← e]
    exact_mod_cast h1
  · have e : ((n.toNat : Nat) : Int) = n := Int.toNat_of_nonneg h
    rw [← e]
    exact_mod_cast h2
theorem sq_le {x r : Int} (h0 : 0 ≤ r) (h : x * x < (r + 1) * (r + 1)) : x ≤ r := by
  apply Classical.byContradiction
  intro c
  have hx : r + 1 ≤ x := by omega
  have := Int.mul_le_mul hx hx (by omega) (by omega)
  omega
theorem le_sq {x r : Int} (h1 : x ≤ r) (h2 : -r ≤ x) (h0 : 0 ≤ r) : x * x ≤ r * r := by
  have a : 0 ≤ r - x := by omega
  have b : 0 ≤ r + x := by omega
  have := mul_nn a b
  grind
/-- a turn from 0 on begins at c or ahead of it just where it is no later than tOf -/
theorem tOf_iff {f s c t : Int} (hf : 1 ≤ f) (hs : 0 ≤ s) (hc : 0 ≤ c) (ht : 0 ≤ t) : Bg f s t ≤ c ↔ t ≤ tOf f s c := by
  unfold tOf
  by_cases h : s = 0
  · rw [if_pos h]
    subst h
    have : Bg f 0 t = t * f := by unfold Bg; simp
    rw [this, Int.le_ediv_iff_mul_le (by omega)]
  · rw [if_neg h]
    have hs1 : 1 ≤ s := by omega
    have hsc : 0 ≤ s * c := mul_nn hs hc
    have hN : 0 ≤ (2 * f - s) * (2 * f - s) + 8 * s * c := by
      have := sq_nn (2 * f - s)
      grind
    obtain ⟨r, hr, r0, r1, r2⟩ := isq _ hN
    rw [← hr]
    have slope_ge : -r ≤ 2 * f - s := by
      have : -(2 * f - s) ≤ r := sq_le r0 (by grind)
      omega
    have slope_le : 2 * f - s ≤ r := sq_le r0 (by grind)
    rw [Int.le_ediv_iff_mul_le (by omega)]
    have key : (2 * s * t + (2 * f - s)) * (2 * s * t + (2 * f - s)) = (2 * f - s) * (2 * f - s) + 8 * s * Bg f s t := by
      have := bg2 f s t
      have e : 8 * s * Bg f s t = 4 * s * (2 * Bg f s t) := by grind
      rw [e, this]
      grind
    have st : 0 ≤ s * t := mul_nn hs ht
    have e8 : ∀ x : Int, 8 * s * x = 8 * (s * x) := fun x => by grind
    constructor
    · intro hb
      have : s * Bg f s t ≤ s * c := Int.mul_le_mul_of_nonneg_left hb hs
      have : 2 * s * t + (2 * f - s) ≤ r := sq_le r0 (by rw [key]; rw [e8] at *; omega)
      grind
    · intro hb
      have h1 : 2 * s * t + (2 * f - s) ≤ r := by grind
      have h2 : -r ≤ 2 * s * t + (2 * f - s) := by grind
      have h3 := le_sq h1 h2 r0
      rw [key] at h3
      rw [e8] at h3
      rw [e8] at r1
      have : s * Bg f s t ≤ s * c := by omega
      exact Int.le_of_mul_le_mul_left this (by omega)
theorem tOf_nn {f s c : Int} (hf : 1 ≤ f) (hs : 0 ≤ s) (hc : 0 ≤ c) : 0 ≤ tOf f s c := (tOf_iff hf hs hc (Int.le_refl 0)).mp (by rw [bg0]; exact hc)
theorem tOf_le {f s c : Int} (hf : 1 ≤ f) (hs : 0 ≤ s) (hc : 0 ≤ c) : Bg f s (tOf f s c) ≤ c := (tOf_iff hf hs hc (tOf_nn hf hs hc)).mpr (Int.le_refl _)
theorem tOf_gt {f s c : Int} (hf : 1 ≤ f) (hs : 0 ≤ s) (hc : 0 ≤ c) : c < Bg f s (tOf f s c) + (f + tOf f s c * s) := by
  rw [← bg_succ]
  have h := tOf_iff hf hs hc (t := tOf f s c + 1) (by have := tOf_nn hf hs hc; omega)
  apply Classical.byContradiction
  intro q
  have := h.mp (by omega)
  omega
theorem tOf_eq {f s c t : Int} (hf : 1 ≤ f) (hs : 0 ≤ s) (ht : 0 ≤ t) (h1 : Bg f s t ≤ c) (h2 : c < Bg f s t + (f + t * s)) (hc : 0 ≤ c) : tOf f s c = t := by
  have a := (tOf_iff hf hs hc ht).mp h1
  rw [← bg_succ] at h2
  have b := tOf_iff hf hs hc (t := t + 1) (by omega)
  have : ¬ t + 1 ≤ tOf f s c := fun q => by have := b.mpr q; omega
  omega
theorem bg_nn {f s t : Int} (hf : 1 ≤ f) (hs : 0 ≤ s) (ht : 0 ≤ t) : t ≤ Bg f s t := by
  have h := bg2 f s t
  have a : t ≤ t * f := by
    have := Int.mul_le_mul_of_nonneg_left hf ht
    omega
  have b : 0 ≤ s * (t * (t - 1)) := by
    apply mul_nn hs
    by_cases z : t = 0
    · subst z; simp
    · exact mul_nn ht (by omega)
  omega
theorem bg_ge {f s t : Int} (hf : 1 ≤ f) (hs : 0 ≤ s) (ht : 0 ≤ t) : 0 ≤ Bg f s t := Int.le_trans ht (bg_nn hf hs ht)
theorem tOf_lec {f s c : Int} (hf : 1 ≤ f) (hs : 0 ≤ s) (hc : 0 ≤ c) : tOf f s c ≤ c := Int.le_trans (bg_nn hf hs (tOf_nn hf hs hc)) (tOf_le hf hs hc)
theorem bg_mono {f s t u : Int} (hf : 1 ≤ f) (hs : 0 ≤ s) (ht : 0 ≤ t) (h : t ≤ u) : Bg f s t ≤ Bg f s u := by
  have hu : 0 ≤ Bg f s u := bg_ge hf hs (by omega)
  have a := (tOf_iff hf hs hu (t := u) (by omega)).mp (Int.le_refl _)
  exact (tOf_iff hf hs hu ht).mpr (by omega)
end Wm

/-! Heaps, sizes, promises. -/
namespace Wm
open PySem PySem.Spec PyProof.Rows L2
/-! ### sizes -/
def Bd (k : Nat) (x : Int) : Prop := x.natAbs < 2 ^ k
theorem Bd.of {k : Nat} {x : Int} (h0 : 0 ≤ x) (h : x < 2 ^ k) : Bd k x := by
  unfold Bd
  have : (x.natAbs : Int) < ((2 ^ k : Nat) : Int) := by
    rw [Int.natAbs_of_nonneg h0]; simpa using h
  exact_mod_cast this
theorem Bd.le {k : Nat} {x y : Int} (h : Bd k y) (h0 : 0 ≤ x) (hx : x ≤ y) : Bd k x := by
  unfold Bd at *; omega
theorem Bd.mono {k l : Nat} {x : Int} (h : Bd k x) (hl : k ≤ l) : Bd l x := Nat.lt_of_lt_of_le h (Nat.pow_le_pow_right (by decide) hl)
theorem Bd.mul {a b : Nat} {x y : Int} (hx : Bd a x) (hy : Bd b y) : Bd (a + b) (x * y) := wide_lt hx hy
theorem Bd.add {a b : Nat} {x y : Int} (hx : Bd a x) (hy : Bd b y) : Bd (a + b + 1) (x + y) := by
  have h1 : Bd (a + b) x := hx.mono (by omega)
  have h2 : Bd (a + b) y := hy.mono (by omega)
  unfold Bd at *
  rw [Nat.pow_succ]
  omega
theorem Bd.sub {a b : Nat} {x y : Int} (hx : Bd a x) (hy : Bd b y) : Bd (a + b + 1) (x - y) := by
  have h1 : Bd (a + b) x := hx.mono (by omega)
  have h2 : Bd (a + b) y := hy.mono (by omega)
  unfold Bd at *
  rw [Nat.pow_succ]
  omega
theorem Bd.div {a : Nat} {x y : Int} (hx : Bd a x) : Bd a (x / y) := by
  unfold Bd at *
  exact Nat.lt_of_le_of_lt (Int.natAbs_ediv_le_natAbs x y) hx
theorem Bd.lit8 {x : Int} (h : x.natAbs < 2 ^ 8) : Bd 8 x := h
theorem Bd.lit {x : Int} (h : x.natAbs < 2 ^ 128) : Bd 128 x := h
theorem cm {a b : Nat} {x y : Int} (hx : Bd a x) (hy : Bd b y) (h : a + b ≤ 900000) : CMulW x y :=
  wide_mul (a := a + 1) (b := b + 1) (hx.mono (by omega)) (hy.mono (by omega)) (by omega) (by omega) (by omega)
theorem cd {b : Nat} {x y : Int} (h0 : 0 < y) (hy : Bd b y) (h : b ≤ 8999) : CDivW x y :=
  wide_div (b := b + 1) h0 (hy.mono (by omega)) (by omega) (by omega)
/-! ### heaps -/
def dfl (f s : Int) : List (Str × V) := putF "_step" (.int s) (putF "_first" (.int f) [])
theorem dfl_first (f s : Int) : (dfl f s).lookup ("_first" : Str) = some (.int f) := by
  unfold dfl
  rw [lookup_putF, if_neg (by decide +kernel), lookup_putF, if_pos rfl]
theorem dfl_step (f s : Int) : (dfl f s).lookup ("_step" : Str) = some (.int s) := by
  unfold dfl
  rw [lookup_putF, if_pos rfl]
theorem dfl_no (f s : Int) {m : Str} (h1 : ¬ m = "_step") (h2 : ¬ m = "_first") : (dfl f s).lookup m = none := by
  unfold dfl
  rw [lookup_putF, if_neg h1, lookup_putF, if_neg h2]
  all_goals rfl
/-- the draws' list -/
def Src (H : Hp) (a : Addr) (n : Int) : Prop := ∃ s0 s1 s2 : Int, H a = some (.lst [.int s0, .int s1, .int s2]) ∧ 0 ≤ s1 ∧ s1 < 2147483647 ∧ 0 ≤ s2 ∧ s2 ≤ n
/-- a drum -/
structure Drm (K : PySem.W.Frag) (H : Hp) (p : Addr) (f s : Int) : Prop where
  ob : ∃ dx, H p = some (.ins (He.ga K "Drum") dx (dfl f s))
  f1 : 1 ≤ f
  f2 : f < 10 ^ 15
  s0 : 0 ≤ s
  s2 : s < 10 ^ 15
theorem Drm.bf {K : PySem.W.Frag} {H : Hp} {p : Addr} {f s : Int} (d : Drm K H p f s) : Bd 50 f := Bd.of (by have := d.f1; omega) (by have := d.f2; omega)
theorem Drm.bs {K : PySem.W.Frag} {H : Hp} {p : Addr} {f s : Int} (d : Drm K H p f s) : Bd 50 s := Bd.of d.s0 (by have := d.s2; omega)
/-- all but what stands at a is as it was -/
def But (a : Addr) (H H' : Hp) : Prop := ∀ b o, b ≠ a → H b = some o → H' b = some o
theorem But.refl (a : Addr) (H : Hp) : But a H H := fun _ _ _ h => h
theorem But.trans {a : Addr} {H H1 H2 : Hp} (h : But a H H1) (k : But a H1 H2) : But a H H2 := fun b o n e => k b o n (h b o n e)
theorem But.of {a : Addr} {H H' : Hp} (h : Same H H') : But a H H' := fun b o _ e => h b o e
theorem same_upd {H : Hp} {q : Addr} {o : HO} (h : H q = none) : Same H (upd H q o) := fun b u e => by
  rw [upd_ne (ne_of_none e h)]; exact e
theorem but_set {a : Addr} {H : Hp} {o : HO} : But a H (upd H a o) := fun b u n e => by
  rw [upd_ne n]; exact e
section
variable {K : PySem.W.Frag} {H H' : Hp} {a p q : Addr} {f s n m : Int} {o u : HO} {xs : List V}
theorem Src.ne (h : Src H a n) (e : H p = some (.ins q m' xs')) : p ≠ a := by
  obtain ⟨_, _, _, e2, _⟩ := h
  exact ne_of e e2 (by intro z; cases z)
theorem Src.neT (h : Src H a n) (e : H p = some (.tup xs)) : p ≠ a := by
  obtain ⟨_, _, _, e2, _⟩ := h
  exact ne_of e e2 (by intro z; cases z)
theorem Src.neN (h : Src H a n) (e : H p = none) : p ≠ a := by
  obtain ⟨_, _, _, e2, _⟩ := h
  exact (ne_of_none e2 e).symm
theorem Src.same (h : Same H H') (x : Src H a n) : Src H' a n := by
  obtain ⟨s0, s1, s2, e2, r⟩ := x
  exact ⟨s0, s1, s2, h _ _ e2, r⟩
theorem Src.upd (h : H q = none) (x : Src H a n) : Src (L2.upd H q o) a n := x.same (same_upd h)
theorem Src.mono (x : Src H a n) (h : n ≤ m) : Src H a m := by
  obtain ⟨s0, s1, s2, e2, a, b, c, d⟩ := x
  exact ⟨s0, s1, s2, e2, a, b, c, by omega⟩
theorem Drm.same (h : Same H H') (x : Drm K H p f s) : Drm K H' p f s := ⟨x.ob.elim fun dx e => ⟨dx, h _ _ e⟩, x.f1, x.f2, x.s0, x.s2⟩
theorem Drm.upd (h : H q = none) (x : Drm K H p f s) : Drm K (L2.upd H q o) p f s := x.same (same_upd h)
theorem Drm.but (h : But a H H') (hs : Src H a n) (x : Drm K H p f s) : Drm K H' p f s := ⟨x.ob.elim fun dx e => ⟨dx, h _ _ (hs.ne e) e⟩, x.f1, x.f2, x.s0, x.s2⟩
theorem at_same (h : Same H H') (x : H p = some o) : H' p = some o := h _ _ x
theorem at_upd (h : H q = none) (x : H p = some o) : L2.upd H q u p = some o := (same_upd h) _ _ x
theorem at_but (h : But a H H') (n : p ≠ a) (x : H p = some o) : H' p = some o := h _ _ n x
theorem tup_but (h : But a H H') (hs : Src H a n) (x : H p = some (.tup xs)) : H' p = some (.tup xs) := h _ _ (hs.neT x) x
end
/-! ### promises of the program -/
section
variable (K : PySem.W.Frag)
def sp_is_whole : Sp := fun vs H Q _ => ∃ n : Int, vs = [.int n] ∧ Q (.bl true) H
def sp_is_from : Sp := fun vs H Q _ => ∃ l n : Int, vs = [.int l, .int n] ∧ Q (.bl (decide (l ≤ n))) H
def sp_is_below : Sp := fun vs H Q _ => ∃ m n : Int, vs = [.int m, .int n] ∧ 0 ≤ n ∧ Q (.bl (decide (n < m))) H
def sp_is_tuple_of : Sp := fun vs H Q _ => ∃ (m : Int) (p : Addr) (xs : List V), vs = [.int m, .ref p] ∧ H p = some (.tup xs) ∧ Q (.bl (decide ((xs.length : Int) = m))) H
def sp_check_turn : Sp := fun vs H Q _ => ∃ n : Int, vs = [.int n] ∧ 0 ≤ n ∧ Q .non H
def sp_check_cell : Sp := fun vs H Q _ => ∃ n : Int, vs = [.int n] ∧ 0 ≤ n ∧ Q .non H
def sp_check_length : Sp := fun vs H Q _ => ∃ n : Int, vs = [.int n] ∧ 1 ≤ n ∧ Q .non H
def sp_check_beats : Sp := fun vs H Q _ => ∃ n : Int, vs = [.int n] ∧ 0 ≤ n ∧ Q .non H
def sp_check_place : Sp := fun vs H Q _ => ∃ m n : Int, vs = [.int m, .int n] ∧ 0 ≤ n ∧ n < m ∧ Q .non H
def sp_check_below : Sp := fun vs H Q _ => ∃ m n : Int, vs = [.int m, .int n] ∧ 0 ≤ n ∧ n < m ∧ Q .non H
def sp_Drumu__initu_ : Sp := fun vs H Q _ => ∃ (p dx : Addr) (f s : Int), vs = [.ref p, .int f, .int s] ∧ H p = some (.ins (He.ga K "Drum") dx []) ∧ 1 ≤ f ∧ f < 10 ^ 15 ∧ 0 ≤ s ∧ s < 10 ^ 15 ∧ Q .non (upd H p (.ins (He.ga K "Drum") dx (dfl f s)))
def sp_Drum_first : Sp := fun vs H Q _ => ∃ (p : Addr) (f s : Int), vs = [.ref p] ∧ Drm K H p f s ∧ Q (.int f) H
def sp_Drum_step : Sp := fun vs H Q _ => ∃ (p : Addr) (f s : Int), vs = [.ref p] ∧ Drm K H p f s ∧ Q (.int s) H
def sp_Drum_size : Sp := fun vs H Q _ => ∃ (p : Addr) (f s t : Int), vs = [.ref p, .int t] ∧ Drm K H p f s ∧ 0 ≤ t ∧ t < 2 ^ 1000 ∧ Q (.int (f + t * s)) H
def sp_Drum_begins : Sp := fun vs H Q _ => ∃ (p : Addr) (f s t : Int), vs = [.ref p, .int t] ∧ Drm K H p f s ∧ 0 ≤ t ∧ t < 2 ^ 1000 ∧ Q (.int (Bg f s t)) H
def sp_Drumu_turn_of : Sp := fun vs H Q _ => ∃ (p : Addr) (f s c : Int), vs = [.ref p, .int c] ∧ Drm K H p f s ∧ 0 ≤ c ∧ c < 2 ^ 1000 ∧ Q (.int (tOf f s c)) H
/-- what where tells -/
def whr (f s c : Int) : List Int := [tOf f s c, c - Bg f s (tOf f s c), f + tOf f s c * s]
def sp_Drum_where : Sp := fun vs H Q _ => ∃ (p : Addr) (f s c : Int), vs = [.ref p, .int c] ∧ Drm K H p f s ∧ 0 ≤ c ∧ c < 2 ^ 1000 ∧
  ∀ (q : Addr) (H' : Hp), Same H H' → H' q = some (.tup ((whr f s c).map V.int)) → Q (.ref q) H'
def sp_Drum_cell_at : Sp := fun vs H Q _ => ∃ (p : Addr) (f s t l : Int), vs = [.ref p, .int t, .int l] ∧ Drm K H p f s ∧ 0 ≤ t ∧ t < 2 ^ 1000 ∧ 0 ≤ l ∧ l < f + t * s ∧ Q (.int (Bg f s t + l)) H
def sp_Drum_filled : Sp := fun vs H Q _ => ∃ (p : Addr) (f s c : Int), vs = [.ref p, .int c] ∧ Drm K H p f s ∧ 1 ≤ c ∧ c < 2 ^ 1000 ∧
  ∀ (q : Addr) (H' : Hp), Same H H' → H' q = some (.tup [.int (tOf f s (c - 1)), .int (c - 1 - Bg f s (tOf f s (c - 1)) + 1)]) → Q (.ref q) H'
/-! ### promises of a law's own draws -/
def sp__law_source_of : Sp := fun vs H Q _ => ∃ c : Int, vs = [.int c] ∧ ∀ (q : Addr) (H' : Hp), H q = none → Same H H' → Src H' q 0 → Q (.ref q) H'
def sp__law_next : Sp := fun vs H Q _ => ∃ (a : Addr) (n m : Int), vs = [.ref a, .int m] ∧ Src H a n ∧ n < 2 ^ 50 ∧ 0 < m ∧ m < 2 ^ 4000 ∧
  ∀ (r : Int) (H' : Hp), 0 ≤ r → r < m → Src H' a (n + 1) → But a H H' → Q (.int r) H'
def sp__law_one : Sp := fun vs H Q _ => ∃ (a p : Addr) (n : Int) (xs : List V), vs = [.ref a, .ref p] ∧ Src H a n ∧ n < 2 ^ 50 ∧ H p = some (.lst xs) ∧ p ≠ a ∧ 0 < xs.length ∧ xs.length < 1000 ∧
  ∀ (v : V) (H' : Hp), v ∈ xs → Src H' a (n + 1) → But a H H' → Q v H'
def sp__law_cell_at : Sp := fun vs H Q _ => ∃ (a : Addr) (ns : List Int) (k : Int), vs = [.ref a, .int k] ∧ SqL K H a (ns.map V.int) ∧ ns.length ≤ 63 ∧ 0 ≤ k ∧ ∀ r : Int, Q (.int r) H
def sp_law : Sp := fun vs H Q _ => ∃ (a : Addr) (ns : List Int), vs = [.ref a] ∧ SqL K H a (ns.map V.int) ∧ ns.length ≤ 63 ∧ ∀ H', Q (.bl true) H'
end
/-! ### readings of calls -/
section
variable {K : PySem.W.Frag} {σ : L2.St} {H : Hp} {Q : VK} {E : XK} {p a q : Addr} {f s t c l n m : Int}
theorem y_whole (h : Q (.bl true) H) : sp_is_whole [.int n] H Q E := ⟨n, rfl, h⟩
theorem y_from (h : Q (.bl (decide (l ≤ n))) H) : sp_is_from [.int l, .int n] H Q E := ⟨l, n, rfl, h⟩
theorem y_below (h0 : 0 ≤ n) (h : Q (.bl (decide (n < m))) H) : sp_is_below [.int m, .int n] H Q E := ⟨m, n, rfl, h0, h⟩
theorem y_tuple_of {xs : List V} (e : H p = some (.tup xs)) (h : Q (.bl (decide ((xs.length : Int) = m))) H) : sp_is_tuple_of [.int m, .ref p] H Q E := ⟨m, p, xs, rfl, e, h⟩
theorem y_cturn (h0 : 0 ≤ n) (h : Q .non H) : sp_check_turn [.int n] H Q E := ⟨n, rfl, h0, h⟩
theorem y_ccell (h0 : 0 ≤ n) (h : Q .non H) : sp_check_cell [.int n] H Q E := ⟨n, rfl, h0, h⟩
theorem y_clen (h0 : 1 ≤ n) (h : Q .non H) : sp_check_length [.int n] H Q E := ⟨n, rfl, h0, h⟩
theorem y_cbeats (h0 : 0 ≤ n) (h : Q .non H) : sp_check_beats [.int n] H Q E := ⟨n, rfl, h0, h⟩
theorem y_cplace (h0 : 0 ≤ n) (h1 : n < m) (h : Q .non H) : sp_check_place [.int m, .int n] H Q E := ⟨m, n, rfl, h0, h1, h⟩
theorem y_cbelow (h0 : 0 ≤ n) (h1 : n < m) (h : Q .non H) : sp_check_below [.int m, .int n] H Q E := ⟨m, n, rfl, h0, h1, h⟩
theorem y_first (d : Drm K H p f s) (h : Q (.int f) H) : sp_Drum_first K [.ref p] H Q E := ⟨p, f, s, rfl, d, h⟩
theorem y_step (d : Drm K H p f s) (h : Q (.int s) H) : sp_Drum_step K [.ref p] H Q E := ⟨p, f, s, rfl, d, h⟩
theorem y_size (d : Drm K H p f s) (h0 : 0 ≤ t) (h1 : t < 2 ^ 1000) (h : Q (.int (f + t * s)) H) : sp_Drum_size K [.ref p, .int t] H Q E := ⟨p, f, s, t, rfl, d, h0, h1, h⟩
theorem y_begins (d : Drm K H p f s) (h0 : 0 ≤ t) (h1 : t < 2 ^ 1000) (h : Q (.int (Bg f s t)) H) : sp_Drum_begins K [.ref p, .int t] H Q E := ⟨p, f, s, t, rfl, d, h0, h1, h⟩
theorem y_turn_of (d : Drm K H p f s) (h0 : 0 ≤ c) (h1 : c < 2 ^ 1000) (h : Q (.int (tOf f s c)) H) : sp_Drumu_turn_of K [.ref p, .int c] H Q E := ⟨p, f, s, c, rfl, d, h0, h1, h⟩
theorem y_where (d : Drm K H p f s) (h0 : 0 ≤ c) (h1 : c < 2 ^ 1000) (h : ∀ (q : Addr) (H' : Hp), Same H H' → H' q = some (.tup [.int (tOf f s c), .int (c - Bg f s (tOf f s c)), .int (f + tOf f s c * s)]) → Q (.ref q) H') : sp_Drum_where K [.ref p, .int c] H Q E := ⟨p, f, s, c, rfl, d, h0, h1, h⟩
theorem y_cell_at (d : Drm K H p f s) (h0 : 0 ≤ t) (h1 : t < 2 ^ 1000) (h2 : 0 ≤ l) (h3 : l < f + t * s) (h : Q (.int (Bg f s t + l)) H) : sp_Drum_cell_at K [.ref p, .int t, .int l] H Q E := ⟨p, f, s, t, l, rfl, d, h0, h1, h2, h3, h⟩
theorem y_filled (d : Drm K H p f s) (h0 : 1 ≤ c) (h1 : c < 2 ^ 1000) (h : ∀ (q : Addr) (H' : Hp), Same H H' → H' q = some (.tup [.int (tOf f s (c - 1)), .int (c - 1 - Bg f s (tOf f s (c - 1)) + 1)]) → Q (.ref q) H') : sp_Drum_filled K [.ref p, .int c] H Q E := ⟨p, f, s, c, rfl, d, h0, h1, h⟩
theorem y_source_of (h : ∀ (q : Addr) (H' : Hp), H q = none → Same H H' → Src H' q 0 → Q (.ref q) H') : sp__law_source_of [.int c] H Q E := ⟨c, rfl, h⟩
theorem y_next (hs : Src H a n) (hn : n < 2 ^ 50) (h0 : 0 < m) (h1 : m < 2 ^ 4000) (h : ∀ (r : Int) (H' : Hp), 0 ≤ r → r < m → Src H' a (n + 1) → But a H H' → Q (.int r) H') : sp__law_next [.ref a, .int m] H Q E := ⟨a, n, m, rfl, hs, hn, h0, h1, h⟩
theorem y_one {xs : List V} (hs : Src H a n) (hn : n < 2 ^ 50) (hp : H p = some (.lst xs)) (hne : p ≠ a) (h0 : 0 < xs.length) (h1 : xs.length < 1000) (h : ∀ (v : V) (H' : Hp), v ∈ xs → Src H' a (n + 1) → But a H H' → Q v H') : sp__law_one [.ref a, .ref p] H Q E := ⟨a, p, n, xs, rfl, hs, hn, hp, hne, h0, h1, h⟩
theorem y_law_cell_at {ns : List Int} (hs : SqL K H a (ns.map V.int)) (hl : ns.length ≤ 63) (h0 : 0 ≤ n) (h : ∀ r : Int, Q (.int r) H) : sp__law_cell_at K [.ref a, .int n] H Q E := ⟨a, ns, n, rfl, hs, hl, h0, h⟩
/-- a method of a drum: its arguments first -/
def methK (C : Addr) (m : Str) (sp : Sp) (E : XK) (tA : TA) (σ : L2.St) (Q : VK) (x : V) (H : Hp) : Prop := ∃ a dx fs, x = .ref a ∧ H a = some (.ins C dx fs) ∧ fs.lookup m = none ∧ tA σ H fun vs H2 => sp (x :: vs) H2 Q E
theorem x_meth {C : Addr} {m : Str} {sp : Sp} {ta : TE} {tA : TA} (h : ta σ H fun x H1 => methK C m sp E tA σ Q x H1) : tMeth C m sp [] E ta tA σ H Q := by
  unfold tMeth
  simp only [List.append_nil]
  exact h
theorem x_methD {m : Str} {sp : Sp} {tA : TA} (d : Drm K H p f s) (h1 : (¬ m = "_step") ∧ ¬ m = "_first") (h : tA σ H fun vs H2 => sp (.ref p :: vs) H2 Q E) : methK (He.ga K "Drum") m sp E tA σ Q (.ref p) H := by
  obtain ⟨dx, e⟩ := d.ob
  exact ⟨p, dx, _, rfl, e, dfl_no _ _ h1.1 h1.2, h⟩
theorem nm_where : (¬ ("where" : Str) = "_step") ∧ ¬ ("where" : Str) = "_first" := ⟨by decide +kernel, by decide +kernel⟩
theorem nm_size : (¬ ("size" : Str) = "_step") ∧ ¬ ("size" : Str) = "_first" := ⟨by decide +kernel, by decide +kernel⟩
theorem nm_begins : (¬ ("begins" : Str) = "_step") ∧ ¬ ("begins" : Str) = "_first" := ⟨by decide +kernel, by decide +kernel⟩
theorem nm_first : (¬ ("first" : Str) = "_step") ∧ ¬ ("first" : Str) = "_first" := ⟨by decide +kernel, by decide +kernel⟩
theorem nm_step : (¬ ("step" : Str) = "_step") ∧ ¬ ("step" : Str) = "_first" := ⟨by decide +kernel, by decide +kernel⟩
theorem nm_cell_at : (¬ ("cell_at" : Str) = "_step") ∧ ¬ ("cell_at" : Str) = "_first" := ⟨by decide +kernel, by decide +kernel⟩
theorem nm_filled : (¬ ("filled" : Str) = "_step") ∧ ¬ ("filled" : Str) = "_first" := ⟨by decide +kernel, by decide +kernel⟩
theorem nm_turn_of : (¬ ("_turn_of" : Str) = "_step") ∧ ¬ ("_turn_of" : Str) = "_first" := ⟨by decide +kernel, by decide +kernel⟩
/-- a field of a drum -/
def fldK (K : PySem.W.Frag) (f : Str) (Q : VK) (x : V) (H : Hp) : Prop := ∃ a C dx fs v, x = .ref a ∧ H a = some (.ins C dx fs) ∧ Cls K C ∧ NoAttr K C f ∧ fs.lookup f = some v ∧ Q v H
theorem x_fld {g : Str} {ta : TE} (h : ta σ H fun x H1 => fldK K g Q x H1) : tFld K ta g σ H Q := h
theorem x_fst (cl : Cls K (He.ga K "Drum")) (na : NoAttr K (He.ga K "Drum") "_first") (d : Drm K H p f s) (h : Q (.int f) H) : fldK K "_first" Q (.ref p) H := by
  obtain ⟨dx, e⟩ := d.ob
  exact ⟨p, _, dx, _, _, rfl, e, cl, na, dfl_first _ _, h⟩
theorem x_stp (cl : Cls K (He.ga K "Drum")) (na : NoAttr K (He.ga K "Drum") "_step") (d : Drm K H p f s) (h : Q (.int s) H) : fldK K "_step" Q (.ref p) H := by
  obtain ⟨dx, e⟩ := d.ob
  exact ⟨p, _, dx, _, _, rfl, e, cl, na, dfl_step _ _, h⟩
/-- Drum(first, step) -/
def mkP (K : PySem.W.Frag) (Q : VK) (E : XK) (vs : List V) (H1 : Hp) : Prop := ∀ x dx, H1 x = none → H1 dx = none → dx ≠ x →
  sp_Drumu__initu_ K (.ref x :: vs) (upd (upd H1 dx (.own x)) x (.ins (He.ga K "Drum") dx [])) (fun v H2 => v = .non ∧ Q (.ref x) H2) E
theorem x_make {tA : TA} (h : tA σ H fun vs H1 => mkP K Q E vs H1) : tMake (He.ga K "Drum") (sp_Drumu__initu_ K) [] E tA σ H Q := by
  unfold tMake
  simp only [List.append_nil]
  exact h
theorem x_mkP (f1 : 1 ≤ f) (f2 : f < 10 ^ 15) (s1 : 0 ≤ s) (s2 : s < 10 ^ 15) (k : ∀ (x : Addr) (H' : Hp), H x = none → Same H H' → Drm K H' x f s → Q (.ref x) H') : mkP K Q E [.int f, .int s] H := by
  intro x dx hx hd hne
  refine ⟨x, dx, f, s, rfl, upd_same, f1, f2, s1, s2, rfl, ?_⟩
  rw [upd_upd]
  refine k x _ hx (fun b o e => ?_) ⟨⟨dx, upd_same⟩, f1, f2, s1, s2⟩
  rw [upd_ne (ne_of_none e hx), upd_ne (ne_of_none e hd)]
  exact e
end
end Wm
namespace Wm
open PySem PySem.Spec PyProof.Rows L2
def rLn (K : PySem.W.Frag) : List V → Hp → VK → Prop := fun xs H Q => ∃ x n, xs = [x] ∧ LenV K x H n ∧ Q (.int n) H
theorem cl_len {X : Cx} : CallR X (.builtin "len") (rLn X.K) := call_len
def rMx : List V → Hp → VK → Prop := fun xs H Q => ∃ i j, xs = [.int i, .int j] ∧ Q (.int (if j > i then j else i)) H
theorem cl_max {X : Cx} (hc : X.calm = true) : CallR X (.builtin "max") rMx := call_max2 hc
def rMn : List V → Hp → VK → Prop := fun xs H Q => ∃ i j, xs = [.int i, .int j] ∧ Q (.int (if j < i then j else i)) H
theorem cl_min {X : Cx} (hc : X.calm = true) : CallR X (.builtin "min") rMn := call_min2 hc
def rIn1 : List V → Hp → VK → Prop := fun xs H Q => (∃ i, xs = [.int i] ∧ Q (.int i) H) ∨ ∃ k, xs = [.bl k] ∧ Q (.int (if k then 1 else 0)) H
theorem cl_int {X : Cx} : CallR X (.type "int") rIn1 := call_int1
section
variable {K : PySem.W.Frag} {σ σ' : L2.St} {H : Hp} {Q : VK} {E : XK} {D : Ends} {p a q : Addr} {xs ys : List V} {v w x : V} {R : L2.St → Hp → Prop}
theorem x_set {i : Nat} (e : σ.set i (some v) = σ') (h : R σ' H) : gName i v σ H R := by subst e; exact h
theorem x_gTup {n : Nat} {t : TGs} (e : H a = some (.tup xs)) (l : xs.length = n) (h : t xs σ H R) : gTup K n t (.ref a) σ H R := ⟨a, xs, rfl, .inl (.inl e), l, h⟩
theorem x_gCons {t : TG} {u : TGs} {r : List V} (h : t v σ H fun σ' H' => u r σ' H' R) : gCons t u (v :: r) σ H R := ⟨v, r, rfl, h⟩
theorem x_gNil (h : R σ H) : gNil [] σ H R := ⟨rfl, h⟩
theorem x_gSub {to ti : TE} {t : TSet} (h : to σ H fun o H1 => ti σ H1 fun i H2 => t o i v H2 fun H3 => R σ H3) : gSub to ti t v σ H R := h
theorem x_setL {k : Int} {j : Nat} {R : Hp → Prop} (e : H p = some (.lst xs)) (i : ixN xs.length k = some j) (h : R (upd H p (.lst (xs.set j v)))) : rSetL (.ref p) (.int k) v H R := ⟨p, xs, k, j, rfl, rfl, e, i, h⟩
theorem x_ixL {k : Int} (e : SqL K H p xs) (i : atI xs k = some v) (h : Q v H) : rIxL K (.ref p) (.int k) H Q := ⟨p, xs, k, v, rfl, rfl, e, i, h⟩
theorem x_ixT {k : Int} (e : H p = some (.tup xs)) (i : atI xs k = some v) (h : Q v H) : rIxT K (.ref p) (.int k) H Q := ⟨p, xs, k, v, rfl, rfl, .inl (.inl e), i, h⟩
theorem sql {xs : List V} (e : H p = some (.lst xs)) : SqL K H p xs := .inl (.inl e)
theorem x_parK {i j : Nat} {tA : TA} (h : tA σ H fun vs H1 => ∃ v w, vs = [v, w] ∧ D.nx ((σ.set i (some v)).set j (some w)) H1) : tPar i j tA D σ H := h
theorem x_par2 {i j : Nat} (e : (σ.set i (some v)).set j (some w) = σ') (h : R σ' H) : ∃ v' w', [v, w] = [v', w'] ∧ R ((σ.set i (some v')).set j (some w')) H := ⟨v, w, rfl, by rw [e]; exact h⟩
/-- len of a list, a tuple -/
theorem x_lenL (e : SqL K H p xs) (h : Q (.int xs.length) H) : rLn K [.ref p] H Q := ⟨_, _, rfl, .inl ⟨_, e, rfl⟩, h⟩
theorem x_lenT (e : H p = some (.tup xs)) (h : Q (.int xs.length) H) : rLn K [.ref p] H Q := ⟨_, _, rfl, .inr ⟨_, .inl (.inl e), rfl⟩, h⟩
theorem x_max {i j : Int} (h : Q (.int (max i j)) H) : rMx [.int i, .int j] H Q := ⟨i, j, rfl, by
  have e : (if j > i then j else i) = max i j := by split <;> omega
  rw [e]; exact h⟩
theorem x_min {i j : Int} (h : Q (.int (min i j)) H) : rMn [.int i, .int j] H Q := ⟨i, j, rfl, by
  have e : (if j < i then j else i) = min i j := by split <;> omega
  rw [e]; exact h⟩
theorem x_intB {k : Bool} (h : Q (.int (if k = true then 1 else 0)) H) : rIn1 [.bl k] H Q := .inr ⟨k, rfl, h⟩
theorem x_isqrt {i : Int} (h0 : 0 ≤ i) (hl : Bd 12000 i) (h : Q (.int ((PySem.Float64.isqrt i.toNat : Nat) : Int)) H) : rIsqrt [.int i] H Q := ⟨i, rfl, h0, by
  have : i.toNat.log2 < 12000 := PySem.Flt.log2_lt_of (by decide) (by unfold Bd at hl; omega)
  omega, h⟩
theorem x_gcd {i j : Int} (h : Q (.int ((Nat.gcd i.natAbs j.natAbs : Nat) : Int)) H) : rGcd [.int i, .int j] H Q := ⟨i, j, rfl, h⟩
theorem x_isi {i : Int} {T : String} {b : Bool} (e : kitB "int" T = some b) (h : Q (.bl b) H) : rIsi K [.int i, .ty T] H Q := ⟨_, _, _, _, b, rfl, .ty T, .base (.int i), kit_ty e, h⟩
theorem x_isiT {T : String} {b : Bool} (ht : H p = some (.tup xs)) (e : kitB "tuple" T = some b) (h : Q (.bl b) H) : rIsi K [.ref p, .ty T] H Q := ⟨_, _, _, _, b, rfl, .ty T, .base (.tup ht), kit_ty e, h⟩
/-- tuples of ints, not the same -/
theorem dpAll_ints : ∀ ns : List Int, DpAll K H (ns.map V.int) (ns.map PyData.int)
  | [] => .nil
  | n :: r => .cons (.int n) (dpAll_ints r)
theorem eqvAll_ints : ∀ ns ms : List Int, PyData.eqvAll (ns.map PyData.int) (ms.map PyData.int) = decide (ns = ms)
  | [], [] => by simp [PyData.eqvAll]
  | [], _ :: _ => by simp [PyData.eqvAll]
  | _ :: _, [] => by simp [PyData.eqvAll]
  | n :: r, m :: t => by
    have h := eqvAll_ints r t
    simp only [List.map_cons, PyData.eqvAll, PyData.eqv, h]
    by_cases c : n = m <;> by_cases d : r = t <;> simp [c, d]
end
end Wm
namespace Wm
open PySem PySem.Spec PyProof.Rows L2
theorem canLayAll_ints : ∀ ns : List Int, PyData.canLayAll0 (ns.map PyData.int) = true
  | [] => by simp [PyData.canLayAll0]
  | n :: r => by simp [PyData.canLayAll0, PyData.canLay0, canLayAll_ints r]
theorem depthAll_ints : ∀ ns : List Int, PyData.depthAll (ns.map PyData.int) = 0
  | [] => by simp [PyData.depthAll]
  | n :: r => by simp [PyData.depthAll, PyData.depth, depthAll_ints r]
theorem shaped_ints (ns : List Int) (h : ns.length ≤ 100000) : SeqAt.shaped (.tuple (ns.map PyData.int)) = true := by
  unfold SeqAt.shaped
  have h1 : PyData.canLay0 (.tuple (ns.map PyData.int)) = true := by
    unfold PyData.canLay0
    simp [canLayAll_ints]
  have h2 : PyData.depth (.tuple (ns.map PyData.int)) = 1 := by
    unfold PyData.depth
    simp [depthAll_ints]
  rw [h1, h2]
  decide
section
variable {K : PySem.W.Frag} {H : Hp} {Q : VK} {p q : Addr} {ns ms : List Int}
theorem x_neT (hp : H p = some (.tup (ns.map V.int))) (hq : H q = some (.tup (ms.map V.int))) (l1 : ns.length ≤ 100000) (l2 : ms.length ≤ 100000) (h : Q (.bl (!decide (ns = ms))) H) : rNeD K (.ref p) (.ref q) H Q :=
  ⟨_, _, .tup (.inl (.inl hp)) (dpAll_ints ns), .tup (.inl (.inl hq)) (dpAll_ints ms), shaped_ints ns l1, shaped_ints ms l2, by
    have e : PyData.eqv (.tuple (ns.map PyData.int)) (.tuple (ms.map PyData.int)) = decide (ns = ms) := by
      rw [PyData.eqv, eqvAll_ints]
    rw [e]; exact h⟩
theorem x_eqT (hp : H p = some (.tup (ns.map V.int))) (hq : H q = some (.tup (ms.map V.int))) (l1 : ns.length ≤ 100000) (l2 : ms.length ≤ 100000) (h : Q (.bl (decide (ns = ms))) H) : rEqD K (.ref p) (.ref q) H Q :=
  ⟨_, _, .tup (.inl (.inl hp)) (dpAll_ints ns), .tup (.inl (.inl hq)) (dpAll_ints ms), shaped_ints ns l1, shaped_ints ms l2, by
    have e : PyData.eqv (.tuple (ns.map PyData.int)) (.tuple (ms.map PyData.int)) = decide (ns = ms) := by
      rw [PyData.eqv, eqvAll_ints]
    rw [e]; exact h⟩
end
end Wm

namespace Wm
open PySem PySem.Spec PyProof.Rows L2
theorem atI_in {xs : List V} {r : Int} (h0 : 0 ≤ r) (h1 : r < xs.length) : ∃ v, v ∈ xs ∧ atI xs r = some v := by
  obtain ⟨n, rfl⟩ := Int.eq_ofNat_of_zero_le h0
  have hl : n < xs.length := by omega
  exact ⟨xs[n], List.getElem_mem _, atI_nat (List.getElem?_eq_getElem hl)⟩
theorem SqL_but {K : PySem.W.Frag} {H H' : Hp} {a p : Addr} {xs : List V} (n : p ≠ a) (h : But a H H') (x : SqL K H p xs) : SqL K H' p xs := by
  rcases x with (e | ⟨o, e⟩) | e
  · exact .inl (.inl (h _ _ n e))
  · exact .inl (.inr ⟨o, h _ _ n e⟩)
  · exact .inr e
end Wm
namespace Wm
open PySem PySem.Spec PyProof.Rows L2
section
variable {X : Cx} {K : PySem.W.Frag} {σ : L2.St} {H : Hp} {Q : VK} {D : Ends} {p a q : Addr} {xs zs : List V}
/-- a written power -/
theorem pe_pw {i j r : Int} {k1 k2 : Nat} {p1 p2 pos : Pos} (hc : CPow i j) (e : i ^ j.toNat = r) : PE X (.BinOp (.Constant (.int i) k1 p1) .Pow (.Constant (.int j) k2 p2) pos) (tC (.int r)) :=
  ⟨fun pins s σ H Q I h => (pe_op op_pow pe_int pe_int).run pins s σ H Q I ⟨i, j, rfl, rfl, hc, by show Q (.int (i ^ j.toNat)) H; rw [e]; exact h⟩⟩
theorem x_cat (h1 : H p = some (.lst xs)) (h2 : H q = some (.lst zs)) (l : xs.length + zs.length ≤ sizeLine) (h : ∀ r, H r = none → Q (.ref r) (upd H r (.lst (xs ++ zs)))) : rCat (.ref p) (.ref q) H Q := ⟨p, q, xs, zs, rfl, rfl, h1, h2, l, h⟩
theorem x_sl {r : V → Option Int → Option Int → Hp → VK → Prop} {te : TE} {tl th : TO} (h : te σ H fun x H1 => tl σ H1 fun l H2 => th σ H2 fun u H3 => r x l u H3 Q) : tSl r te tl th σ H Q := h
theorem x_noPart {R : Option Int → Hp → Prop} (h : R none H) : tNoPart σ H R := h
def asI (R : Option Int → Hp → Prop) (x : V) (H : Hp) : Prop := ∃ i, x = .int i ∧ R (some i) H
theorem x_part {t : TE} {R : Option Int → Hp → Prop} (h : t σ H fun x H1 => asI R x H1) : tPart t σ H R := h
theorem x_asI {i : Int} {R : Option Int → Hp → Prop} (h : R (some i) H) : asI R (.int i) H := ⟨i, rfl, h⟩
theorem x_slL {lo hi : Option Int} (e : SqL K H p xs) (h : ∀ r, H r = none → Q (.ref r) (upd H r (.lst (cutV xs lo hi)))) : rSlL K (.ref p) lo hi H Q := ⟨p, xs, rfl, e, h⟩
theorem cut_in {xs : List V} {lo hi : Option Int} {v : V} (h : v ∈ cutV xs lo hi) : v ∈ xs := by
  unfold cutV at h
  exact List.mem_of_mem_drop (List.mem_of_mem_take h)
/-- a for over a list -/
def forK (K : PySem.W.Frag) (g : TG) (tb : TS) (D : Ends) (σ : L2.St) (x : V) (H : Hp) : Prop := ∃ a, x = .ref a ∧ (∃ xs, SqL K H a xs) ∧ ∃ W : Nat → Nat → L2.St → Hp → Prop, (∃ m, W 0 m σ H) ∧ ∀ i m σ H, W i m σ H →
      ((Itl K a).stop i H ∧ D.nx σ H) ∨ ((Itl K a).go i H ∧ ∃ N : L2.St → Hp → Prop, (∀ σ' H', N σ' H' → ∃ m', m' < m ∧ W (i + 1) m' σ' H') ∧ ∀ x H', (Itl K a).yld i H x H' → g x σ H' fun σ2 H2 => tb { D with nx := N, ct := N, bk := D.nx } σ2 H2)
theorem x_for {tl : TE} {g : TG} {tb : TS} (h : tl σ H fun x H1 => forK K g tb D σ x H1) : tFor (iList K tl) g tb D σ H := h
theorem x_forL {g : TG} {tb : TS} (e : H p = some (.lst xs)) (I : Nat → L2.St → Hp → Prop) (h0 : I 0 σ H)
    (hs : ∀ i x σ H, xs[i]? = some x → I i σ H → H p = some (.lst xs) → g x σ H fun σ2 H2 => tb { D with nx := fun σ H => I (i + 1) σ H ∧ H p = some (.lst xs), ct := fun σ H => I (i + 1) σ H ∧ H p = some (.lst xs), bk := D.nx } σ2 H2)
    (hd : ∀ σ H, I xs.length σ H → D.nx σ H) : forK K g tb D σ (.ref p) H :=
  ⟨p, rfl, ⟨_, sql e⟩, for_list (K := K) (a := p) (xs := xs) (fun i σ H => I i σ H ∧ H p = some (.lst xs)) ⟨h0, e⟩ (fun _ _ _ _ q => sql q.2) (fun i x σ H hi q => hs i x σ H hi q.1 q.2) (fun σ H q => hd σ H q.1)⟩
end
/-- the cells of a law -/
theorem cells_int {ns : List Int} {r : Int} {lo hi : Option Int} {x : V} (h : x ∈ [V.int r] ++ cutV (ns.map V.int) lo hi) : ∃ z, x = .int z := by
  rcases List.mem_append.mp h with h | h
  · exact ⟨r, by simpa using h⟩
  · obtain ⟨z, _, e⟩ := List.mem_map.mp (cut_in h)
    exact ⟨z, e.symm⟩
theorem cells_len {ns : List Int} {r : Int} {lo hi : Option Int} (h : ns.length ≤ 63) : ([V.int r]).length + (cutV (ns.map V.int) lo hi).length ≤ sizeLine := by
  have := cutV_length (ns.map V.int) lo hi
  rw [List.length_map] at this
  have : ([V.int r]).length = 1 := rfl
  have : 1000 ≤ sizeLine := by decide
  omega
end Wm

namespace Wm
open PySem PySem.Spec PyProof.Rows L2
section
variable {K : PySem.W.Frag} {H : Hp} {Q : VK} {p q : Addr} {a b c a' b' c' : Int}
theorem x_neT3 (hp : H p = some (.tup [.int a, .int b, .int c])) (hq : H q = some (.tup [.int a', .int b', .int c'])) (h : Q (.bl (!decide (a = a' ∧ b = b' ∧ c = c'))) H) : rNeD K (.ref p) (.ref q) H Q :=
  x_neT (ns := [a, b, c]) (ms := [a', b', c']) hp hq (Nat.le_of_ble_eq_true rfl) (Nat.le_of_ble_eq_true rfl) (by
    have e : decide ([a, b, c] = [a', b', c']) = decide (a = a' ∧ b = b' ∧ c = c') := by simp
    rw [e]; exact h)
theorem x_neT2 (hp : H p = some (.tup [.int a, .int b])) (hq : H q = some (.tup [.int a', .int b'])) (h : Q (.bl (!decide (a = a' ∧ b = b'))) H) : rNeD K (.ref p) (.ref q) H Q :=
  x_neT (ns := [a, b]) (ms := [a', b']) hp hq (Nat.le_of_ble_eq_true rfl) (Nat.le_of_ble_eq_true rfl) (by
    have e : decide ([a, b] = [a', b']) = decide (a = a' ∧ b = b') := by simp
    rw [e]; exact h)
theorem x_eqT3 (hp : H p = some (.tup [.int a, .int b, .int c])) (hq : H q = some (.tup [.int a', .int b', .int c'])) (h : Q (.bl (decide (a = a' ∧ b = b' ∧ c = c'))) H) : rEqD K (.ref p) (.ref q) H Q :=
  x_eqT (ns := [a, b, c]) (ms := [a', b', c']) hp hq (Nat.le_of_ble_eq_true rfl) (Nat.le_of_ble_eq_true rfl) (by
    have e : decide ([a, b, c] = [a', b', c']) = decide (a = a' ∧ b = b' ∧ c = c') := by simp
    rw [e]; exact h)
theorem x_eqT2 (hp : H p = some (.tup [.int a, .int b])) (hq : H q = some (.tup [.int a', .int b'])) (h : Q (.bl (decide (a = a' ∧ b = b'))) H) : rEqD K (.ref p) (.ref q) H Q :=
  x_eqT (ns := [a, b]) (ms := [a', b']) hp hq (Nat.le_of_ble_eq_true rfl) (Nat.le_of_ble_eq_true rfl) (by
    have e : decide ([a, b] = [a', b']) = decide (a = a' ∧ b = b') := by simp
    rw [e]; exact h)
end
theorem mul_bd {a b A B : Int} (a0 : 0 ≤ a) (aA : a ≤ A) (b0 : 0 ≤ b) (bB : b ≤ B) : 0 ≤ a * b ∧ a * b ≤ A * B :=
  ⟨Int.mul_nonneg a0 b0, Int.mul_le_mul aA bB b0 (by omega)⟩
theorem mul_ge1 {a b : Int} (a0 : 1 ≤ a) (b0 : 1 ≤ b) : 1 ≤ a * b := by
  have := Int.mul_le_mul a0 b0 (by decide) (by omega)
  omega
end Wm
namespace Wm
open PySem PySem.Spec PyProof.Rows L2
theorem x_cut2 {K : PySem.W.Frag} {H : Hp} {Q : VK} {p : Addr} {x y z : V} (e : H p = some (.tup [x, y, z])) (h : ∀ r, H r = none → Q (.ref r) (upd H r (.tup [x, y]))) : rSlT K (.ref p) none (some 2) H Q :=
  ⟨p, _, rfl, .inl (.inl e), (by show ¬ (HT.sIx 3 0 none = 0 ∧ HT.sIx 3 3 (some 2) = 3); decide), fun r hr => h r hr⟩
end Wm

/-! Calls with keywords: a method's, a function's. -/
namespace Wm
open PySem PySem.Spec PyProof.Rows L2
theorem kbn {K : PySem.W.Frag} {x qual : Str} {params : Arguments} {body : List Stmt} {scope : Scope} {kws : List (Str × V)} {f : Addr} {fd : FuncData} {ps ks : List Str} {n : Nat} {g : List Value → List Value → List Value} {gV : List V → List V → List V}
    (F : FunD K x qual params body scope [] kws f fd)
    (h : ∀ (kV doc pm : Value) (an : Option Addr) (cdv ct : Value) (us ws : List Value), us.length = n → ws.length = ks.length → bindArgs (PySem.W.fnOf x qual params body scope .none kV doc pm an cdv ct) ⟨us, ks.zip ws⟩ = pure (ps.zip (g us ws)))
    (rel : ∀ {vs : List V} {us : List Value} {zs : List V} {ws : List Value}, Vals vs us → Vals zs ws → Vals (gV vs zs) (g us ws)) : KBn K fd ps n ks g gV := by
  obtain ⟨oc, od, dV, kV, doc, pm, an, cdv, ct, osl, rfl, lk, hcd, hD, hK⟩ := F.ex
  rcases hD with ⟨_, rfl⟩ | ⟨e, _⟩
  · exact ⟨fun s us ws _ l1 l2 => .of_eq (h kV doc pm an cdv ct us ws l1 l2), rel⟩
  · exact absurd rfl e
def tMethN (C : Addr) (m : Str) (k : Nat) (sp : Sp) (gV : List V → List V → List V) (E : XK) (ta : TE) (tk : TA) : TE := fun σ H Q => ta σ H fun x H1 => ∃ a dx fs, x = .ref a ∧ H1 a = some (.ins C dx fs) ∧ fs.lookup m = none ∧
  tk σ H1 fun zs H2 => zs.length = k ∧ sp (gV [x] zs) H2 Q E
section
variable {X : Cx} {CX : CXT} {k : Nat} {f C : Addr} {fd : FuncData} {ps ks : List Str} {sp : Sp} {E : XK} {m : Str} {p pos apos : Pos} {o : Expr} {kws : List Keyword} {ta : TE} {tk : TA} {g : List Value → List Value → List Value} {gV : List V → List V → List V}
/-- o.m(k = v, ..) -/
theorem pe_methN {pl : Sem Bool} (he : PE X o ta) (c : Cls X.K C) (hm : Meth X.K C m f) (F : FnOk X.prog X.w X.K X.mg X.base CX k f fd ps sp) (hr : Room k X.A) (hb : KBn X.K fd ps 1 ks g gV) (hx : Passes CX X E)
    (hkw : PK X kws tk) (hall : (backToKw pos (keywordEach kws X.env)).all (·.1.isSome) = true := by rfl) (hks : (backToKw pos (keywordEach kws X.env)).filterMap (·.1) = ks := by rfl)
    (hpl : ((backTo pos (starEach [] X.env)).any (·.1) || (backToKw pos (keywordEach kws X.env)).any (·.1.isNone)) = false := by rfl)
    (ht : eval (.Call (.Attribute o m apos) [] kws pos) X.env = (do
      let ov ← eval o X.env
      standAt apos.atName
      let (f, first) ← holding [ov] (getMethod ov m pl)
      callWith pos f first (backTo pos (starEach [] X.env)) (backToKw pos (keywordEach kws X.env))) := by rfl) :
    PE X (.Call (.Attribute o m apos) [] kws pos) (tMethN C m ks.length sp gV E ta tk) := by
  refine ⟨fun pins s σ H Q I h => ?_⟩
  refine PySem.W.methodCall_KW (pl := pl) (thn (he.run pins s σ H _ I h) fun u s1 ⟨x, H1, I1, rx, a, dx, fs, ex, ea, l, q⟩ => ?_) ht
  subst ex
  obtain rfl : u = Value.ref a := rx
  refine getmeth_ok I1 ea c hm l ?_
  refine PySem.W.callWith_KW0 (first := [.ref a]) (h₀ := X.base) I.ok.mod.kin hm.kp hall (thn (hkw.run pos pins s1 σ H1 _ I1 q) fun ws s2 ⟨zs, H2, I2, rz, l2, q2⟩ => ⟨I2.kIn, ?_⟩) hpl
  rw [hks]
  exact run_fnN (us := [.ref a]) (vs := [.ref a]) F hr hb hx I2 (.cons rfl .nil) rz rfl l2 q2
end
def methNK (C : Addr) (m : Str) (k : Nat) (sp : Sp) (gV : List V → List V → List V) (E : XK) (tk : TA) (σ : L2.St) (Q : VK) (x : V) (H : Hp) : Prop := ∃ a dx fs, x = .ref a ∧ H a = some (.ins C dx fs) ∧ fs.lookup m = none ∧ tk σ H fun zs H2 => zs.length = k ∧ sp (gV [x] zs) H2 Q E
section
variable {K : PySem.W.Frag} {σ : L2.St} {H : Hp} {Q : VK} {E : XK} {p : Addr} {f s : Int} {C : Addr} {m : Str} {k : Nat} {sp : Sp} {gV : List V → List V → List V} {ta : TE} {tk : TA}
theorem x_methN (h : ta σ H fun x H1 => methNK C m k sp gV E tk σ Q x H1) : tMethN C m k sp gV E ta tk σ H Q := h
theorem x_methND (d : Drm K H p f s) (h1 : (¬ m = "_step") ∧ ¬ m = "_first") (h : tk σ H fun zs H2 => zs.length = k ∧ sp (gV [.ref p] zs) H2 Q E) : methNK (He.ga K "Drum") m k sp gV E tk σ Q (.ref p) H := by
  obtain ⟨dx, e⟩ := d.ob
  exact ⟨p, dx, _, rfl, e, dfl_no _ _ h1.1 h1.2, h⟩
theorem x_len1 {A : Prop} {xs : List V} {n : Nat} (e : xs.length = n) (h : A) : xs.length = n ∧ A := ⟨e, h⟩
end
/-- in the order of the text: the positional ones, then the keywords' -/
theorem rel_app {vs : List V} {us : List Value} {zs : List V} {ws : List Value} (h : Vals vs us) (k : Vals zs ws) : Vals (vs ++ zs) (us ++ ws) := h.append k
end Wm
namespace Wm
open PySem PySem.Spec PyProof.Rows L2
/-! ### while -/
def whK (tb : TS) (D : Ends) (I : L2.St → Hp → Prop) (n : Nat) (μ : L2.St → Nat) (σ : L2.St) (b : Bool) (H : Hp) : Prop :=
  if b = true then ∃ N : L2.St → Hp → Prop, (∀ σ' H', N σ' H' → ∃ m', m' < n ∧ (m' = μ σ' ∧ I σ' H')) ∧ tb { D with nx := N, ct := N, bk := D.nx } σ H else D.nx σ H
theorem x_while {c : TT} {tb : TS} {D : Ends} {σ : L2.St} {H : Hp} (I : L2.St → Hp → Prop) (μ : L2.St → Nat) (h0 : I σ H) (hs : ∀ σ H, I σ H → c σ H fun b H1 => whK tb D I (μ σ) μ σ b H1) : tWhile c tb D σ H := by
  refine ⟨fun m σ H => m = μ σ ∧ I σ H, ⟨_, rfl, h0⟩, ?_⟩
  rintro m σ H ⟨rfl, p⟩
  exact hs σ H p
theorem x_wh {tb : TS} {D : Ends} {I : L2.St → Hp → Prop} {n : Nat} {μ : L2.St → Nat} {σ : L2.St} {H : Hp} {p : Prop} [Decidable p]
    (h1 : p → tb { D with nx := fun σ' H' => I σ' H' ∧ μ σ' < n, ct := fun σ' H' => I σ' H' ∧ μ σ' < n, bk := D.nx } σ H) (h2 : ¬ p → D.nx σ H) : whK tb D I n μ σ (decide p) H := by
  unfold whK
  by_cases hp : p
  · rw [decide_eq_true hp]
    exact iteT ⟨_, fun σ' H' h => ⟨_, h.2, rfl, h.1⟩, h1 hp⟩
  · rw [decide_eq_false hp]
    exact iteF (h2 hp)
/-- the int in a slot -/
def sI (i : Nat) (σ : L2.St) : Int := match σ[i]? with
  | some (some (.int h)) => h
  | _ => 0
/-! ### a for over a range -/
def forR (g : TG) (tb : TS) (D : Ends) (σ : L2.St) (J : It) (H : Hp) : Prop := ∃ W : Nat → Nat → L2.St → Hp → Prop, (∃ m, W 0 m σ H) ∧ ∀ i m σ H, W i m σ H →
      (J.stop i H ∧ D.nx σ H) ∨ (J.go i H ∧ ∃ N : L2.St → Hp → Prop, (∀ σ' H', N σ' H' → ∃ m', m' < m ∧ W (i + 1) m' σ' H') ∧ ∀ x H', J.yld i H x H' → g x σ H' fun σ2 H2 => tb { D with nx := N, ct := N, bk := D.nx } σ2 H2)
def asR1 (R : It → Hp → Prop) (vs : List V) (H : Hp) : Prop := ∃ j : Int, vs = [.int j] ∧ -(2 ^ 62) ≤ j ∧ j < 2 ^ 62 ∧ R (Itr 0 j.toNat) H
theorem x_for1 {ta : TA} {g : TG} {tb : TS} {D : Ends} {σ : L2.St} {H : Hp} (h : ta σ H fun vs H1 => asR1 (fun J H => forR g tb D σ J H) vs H1) : tFor (iRng1 ta) g tb D σ H := h
theorem x_asR1 {R : It → Hp → Prop} {H : Hp} {j : Int} (h1 : 0 ≤ j) (h2 : j < 2 ^ 62) (h : R (Itr 0 j.toNat) H) : asR1 R [.int j] H := ⟨j, rfl, by omega, h2, h⟩
theorem x_forR {g : TG} {tb : TS} {D : Ends} {σ : L2.St} {H : Hp} {lo : Int} {n : Nat} (I : Nat → L2.St → Hp → Prop) (h0 : I 0 σ H)
    (hs : ∀ i σ H, i < n → I i σ H → g (.int (lo + i)) σ H fun σ2 H2 => tb { D with nx := I (i + 1), ct := I (i + 1), bk := D.nx } σ2 H2) (hd : ∀ σ H, I n σ H → D.nx σ H) : forR g tb D σ (Itr lo n) H := for_range I h0 hs hd
end Wm
namespace Wm
open PySem PySem.Spec PyProof.Rows L2
theorem Bd.lt {k : Nat} {x : Int} (h : Bd k x) : x < 2 ^ k := by
  unfold Bd at h
  have h1 : ((x.natAbs : Nat) : Int) < ((2 ^ k : Nat) : Int) := by exact_mod_cast h
  have h2 : ((2 ^ k : Nat) : Int) = 2 ^ k := by simp
  omega
theorem Bd.gt {k : Nat} {x : Int} (h : Bd k x) : -2 ^ k < x := by
  unfold Bd at h
  have h1 : ((x.natAbs : Nat) : Int) < ((2 ^ k : Nat) : Int) := by exact_mod_cast h
  have h2 : ((2 ^ k : Nat) : Int) = 2 ^ k := by simp
  omega
section
variable {K : PySem.W.Frag} {σ : L2.St} {H : Hp} {Q : VK} {p a q : Addr} {f s n : Int} {xs zs : List V} {o u : HO}
/-- a method of a list -/
def bmK (K : PySem.W.Frag) (T : String) (r : V → List V → Hp → VK → Prop) (t : TA) (σ : L2.St) (Q : VK) (x : V) (H : Hp) : Prop := tyV K T x H ∧ t σ H fun xs H2 => r x xs H2 Q
theorem x_bm {T : String} {r : V → List V → Hp → VK → Prop} {to : TE} {t : TA} (h : to σ H fun x H1 => bmK K T r t σ Q x H1) : tBM K T r to t σ H Q := h
theorem x_bmL {r : V → List V → Hp → VK → Prop} {t : TA} (e : SqL K H p xs) (h : t σ H fun ys H2 => r (.ref p) ys H2 Q) : bmK K "list" r t σ Q (.ref p) H := ⟨.inl ⟨rfl, _, e⟩, h⟩
theorem x_append {y : V} (e : H p = some (.lst xs)) (l : xs.length ≤ 1000) (h : Q .non (upd H p (.lst (xs ++ [y])))) : rAppend (.ref p) [y] H Q := ⟨p, xs, y, rfl, rfl, e, Nat.lt_of_le_of_lt l (by decide), h⟩
theorem Drm.set (e : H q = some (.lst xs)) (x : Drm K H p f s) : Drm K (L2.upd H q o) p f s := ⟨x.ob.elim fun dx e2 => ⟨dx, by rw [upd_ne (ne_of e2 e (by intro z; cases z))]; exact e2⟩, x.f1, x.f2, x.s0, x.s2⟩
theorem Src.set (ne : a ≠ q) (x : Src H a n) : Src (L2.upd H q o) a n := by
  obtain ⟨s0, s1, s2, e2, r⟩ := x
  exact ⟨s0, s1, s2, by rw [upd_ne ne]; exact e2, r⟩
theorem at_set (ne : p ≠ q) (x : H p = some o) : L2.upd H q u p = some o := by rw [upd_ne ne]; exact x
end
end Wm
namespace Wm
open PySem PySem.Spec PyProof.Rows L2
section
variable {X : Cx}
def tPar3 (i j k : Nat) (ta : TA) : TS := fun D σ H => ta σ H fun vs H1 => ∃ u v w, vs = [u, v, w] ∧ D.nx (((σ.set k (some w)).set j (some v)).set i (some u)) H1
/-- a, b, c = x, y, z with plain local names: stored from the right -/
theorem ps_par3 {i j k : Nat} {x y z : Str} {a b c : Expr} {ta : TA} {px py pz pt pos : Pos} {kt k2 pt2} (hc : X.calm = true) (hN : X.N.Nodup) (hi : X.N[i]? = some x) (hj : X.N[j]? = some y) (hk : X.N[k]? = some z)
    (hx : X.env.scope.names.lookup x = some .local) (hy : X.env.scope.names.lookup y = some .local) (hz : X.env.scope.names.lookup z = some .local) (ha : PA X [a, b, c] ta)
    (hw : swappedStores [.Tuple [.Name x px, .Name y py, .Name z pz] kt pt] (.Tuple [a, b, c] k2 pt2) X.env = pure (some [x, y, z]))
    (hs : swapsWithSole [.Tuple [.Name x px, .Name y py, .Name z pz] kt pt] (.Tuple [a, b, c] k2 pt2) pos.line X.env = pure false := by rfl) :
    PS X (.Assign [.Tuple [.Name x px, .Name y py, .Name z pz] kt pt] (.Tuple [a, b, c] k2 pt2) pos) (tPar3 i j k ta) := by
  refine ⟨fun pins s σ H D I h => ?_⟩
  rw [exec_Assign_arm]
  refine wpAny_bind (wpAny_standAt ?_)
  rw [hs]
  refine wpAny_bind (wpAny_pure ?_)
  rw [if_neg (by decide)]
  refine wpAny_bind (Tuple_ (thn (ha.run _ pins s σ H _ I h) fun us s1 ⟨vs, H1, I1, r1, q1⟩ => ?_))
  obtain ⟨v1, v2, v3, e1, q1⟩ := q1
  subst e1
  obtain ⟨u1, u2, u3, rfl, r1', r2', r3'⟩ : ∃ u1 u2 u3, us = [u1, u2, u3] ∧ RelV v1 u1 ∧ RelV v2 u2 ∧ RelV v3 u3 := by
    cases r1 with
    | cons p q =>
      cases q with
      | cons p' q' =>
        cases q' with
        | cons p'' q'' =>
          cases q''
          exact ⟨_, _, _, rfl, p, p', p''⟩
  refine wpAny_newObj_type ?_ (by show 3 ≤ sizeLine; decide)
  have I2 : L2.Inv X pins σ H1 { s1 with heap := s1.heap.push { cls := .type "tuple", data := .seq [u1, u2, u3].toArray } } := I1.kept (t' := s1.toks) fun b o e => Heap.get?_push_of_some _ e
  rw [hw]
  refine wpAny_bind (wpAny_pure ?_)
  show wpAny (model X.prog X.w) X.A (do rule "assign.swapped-stores"; let items ← unpackItems (.ref s1.heap.objs.size) 3 none; assignInOrder [fun v => bindName X.env z v, fun v => bindName X.env y v, fun v => bindName X.env x v] items.reverse; pure Flow.next) _ _ _
  refine wpAny_bind (wpAny_rule (wpAny_bind (unpackItems_tuple (items := #[u1, u2, u3]) (I.ok.hd hc) (IsTup.new s1.heap _) fun h' hx' => ?_)))
  have I3 := I2.kept (h' := h') (t' := s1.toks) fun b o e => hx' b o (Nat.ne_of_lt (Heap.lt_size e)) e
  show wpAny _ _ (assignInOrder [fun v => bindName X.env z v, fun v => bindName X.env y v, fun v => bindName X.env x v] [u3, u2, u1] >>= fun _ => pure Flow.next) _ _ _
  refine wpAny_bind (assignInOrder_cons (wpAny_bindName (store_ok I3 hN hk (.inl hz) r3' (fun s2 I4 => ?_) (.inr hz))))
  refine assignInOrder_cons (wpAny_bindName (store_ok I4 hN hj (.inl hy) r2' (fun s3 I5 => ?_) (.inr hy)))
  refine assignInOrder_cons (wpAny_bindName (store_ok I5 hN hi (.inl hx) r1' (fun s4 I6 => assignInOrder_nil (wpAny_pure ?_)) (.inr hx)))
  exact ⟨_, H1, I6, q1⟩
end
section
variable {σ σ' : L2.St} {H : Hp} {D : Ends} {u v w : V} {R : L2.St → Hp → Prop}
theorem x_parK3 {i j k : Nat} {tA : TA} (h : tA σ H fun vs H1 => ∃ u v w, vs = [u, v, w] ∧ D.nx (((σ.set k (some w)).set j (some v)).set i (some u)) H1) : tPar3 i j k tA D σ H := h
theorem x_par3 {i j k : Nat} (e : ((σ.set k (some w)).set j (some v)).set i (some u) = σ') (h : R σ' H) : ∃ u' v' w', [u, v, w] = [u', v', w'] ∧ R (((σ.set k (some w')).set j (some v')).set i (some u')) H := ⟨u, v, w, rfl, by rw [e]; exact h⟩
end
end Wm
namespace Wm
open PySem PySem.Spec PyProof.Rows L2
def rIsNn : R2 := fun x y H Q => y = .non ∧ Q (.bl (decide (x = .non))) H
theorem cp_isN {X : Cx} : OpR X (compareOp .Is) rIsNn := op_isN
def rNotNn : R2 := fun x y H Q => y = .non ∧ Q (.bl (!decide (x = .non))) H
theorem cp_notN {X : Cx} : OpR X (compareOp .IsNot) rNotNn := op_notN
section
variable {H : Hp} {Q : VK} {p : Addr} {i : Int}
theorem x_isN0 (h : Q (.bl true) H) : rIsNn .non .non H Q := ⟨rfl, by simpa using h⟩
theorem x_isN1 (h : Q (.bl false) H) : rIsNn (.ref p) .non H Q := ⟨rfl, by simpa using h⟩
theorem x_isN2 (h : Q (.bl false) H) : rIsNn (.int i) .non H Q := ⟨rfl, by simpa using h⟩
theorem x_notN0 (h : Q (.bl false) H) : rNotNn .non .non H Q := ⟨rfl, by simpa using h⟩
theorem x_notN1 (h : Q (.bl true) H) : rNotNn (.ref p) .non H Q := ⟨rfl, by simpa using h⟩
theorem x_notN2 (h : Q (.bl true) H) : rNotNn (.int i) .non H Q := ⟨rfl, by simpa using h⟩
end
end Wm

/-! A for over a range of great numbers. -/
namespace Wm
open PySem PySem.Spec PyProof.Rows L2
theorem turn_long {P : Program} {w : World} {K : PySem.W.Frag} {tg : Expr} (it : Addr) (lo : Int) (n : Nat) : L2.Turn P w K tg (Itr lo n) [it] it (fun i h => IsLongIter h it (lo + (i : Nat) * 1) ((n : Int) - (i : Nat)) 1) where
  mem := by simp
  obj := fun i h st b hb => by
    have e : b = it := by simpa using hb
    subst e
    exact ⟨_, st, fun v z => by
      have z' : Data.fields _ = Data.cell v := z
      cases z'⟩
  keep := fun i h h' st k => k it (by simp) _ st
  item := by
    intro X hP hw hK hc i pins s σ H E I hf st hg
    subst hP hw hK
    obtain ⟨f0, f1, f2, f3, f4, f5⟩ := hf it (by simp)
    have W := Walks.longrange (prog := X.prog) (w := X.w) (I.ok.hd hc) it lo 1 n
    refine W.item i s _ _ hg st fun v h' tk hv st' kk => ?_
    obtain ⟨t, rfl⟩ := hv
    have I1 : L2.Inv X pins σ H { s with heap := h', toks := tk } := I.turned (fun b o hb e => kk b o (by simpa using hb) e) f0 f1 f3 f4 f5
    refine ⟨_, rfl, go_of (s := { s with heap := h', toks := tk }) (n := "longrange_iterator") st' rfl rfl (by decide) ⟨.int (lo + i), H, I1, ⟨t, ?_⟩, ⟨rfl, rfl⟩, st', fun b hb => (hf b hb).1⟩⟩
    rw [Int.mul_one]
  done := by
    intro X hP hw hK hc i pins s σ H E I hf st hg
    subst hP hw hK
    obtain ⟨f0, f1, f2, f3, f4, f5⟩ := hf it (by simp)
    exact wpAny_pyNext_long_end (I.ok.hd hc) st (by have : n ≤ i := hg; omega) fun h' eb => ⟨rfl, I.turned (t' := s.toks) (fun b o hb e => eb b o hb e) f0 f1 f3 f4 f5⟩
  self := fun _ _ _ _ _ st h => wpAny_pyIter_longiter st h
section
variable {X : Cx} {tg : Expr}
theorem range_itW {pins : List (Addr × Obj)} {σ : L2.St} {H : Hp} {s : Shared} {R : It → Hp → Prop} {E : Value → Shared → Prop} {lo hi : Int} {t u v : Tok} {tk : Nat} (I : L2.Inv X pins σ H s)
    (q : R (Itr lo (hi - lo).toNat) H) : wpAny (model X.prog X.w) X.A (pyIter (.ref s.heap.objs.size)) (PIE X pins σ tg R) E { s with heap := s.heap.push { cls := .type "range", data := .fields #[.int lo t, .int hi u, .int 1 v] }, toks := tk } := by
  have I1 : L2.Inv X pins σ H { s with heap := s.heap.push { cls := .type "range", data := .fields #[.int lo t, .int hi u, .int 1 v] }, toks := tk } := I.kept fun b o e => Heap.get?_push_of_some _ e
  have e1 : lo + ((0 : Nat) : Int) * 1 = lo := by simp
  have e2 : (((hi - lo).toNat : Nat) : Int) - ((0 : Nat) : Int) = Builtin.Range.rangeSize lo hi 1 := by rw [rangeSize_one]; split <;> omega
  have fp : ∀ b ∈ [(s.heap.push { cls := .type "range", data := .fields #[.int lo t, .int hi u, .int 1 v] }).objs.size], FpOk X pins H b := fun b hb => by
    have e : b = (s.heap.push { cls := .type "range", data := .fields #[.int lo t, .int hi u, .int 1 v] }).objs.size := by simpa using hb
    subst e
    exact I1.fpOk (Nat.le_refl _) (I1.hok.fresh (Nat.le_refl _))
  cases hs : Builtin.Range.small lo hi 1 with
  | true =>
    refine wpAny_pyIter_range (IsRange.new ..) hs ?_
    refine ⟨(s.heap.push { cls := .type "range", data := .fields #[.int lo t, .int hi u, .int 1 v] }).objs.size, [(s.heap.push { cls := .type "range", data := .fields #[.int lo t, .int hi u, .int 1 v] }).objs.size], _, _, H, rfl,
      I1.kept (t' := tk) fun b o e => Heap.get?_push_of_some _ e, turn_range _ lo (hi - lo).toNat, ?_, fp, q⟩
    show IsRangeIter _ _ (lo + ((0 : Nat) : Int) * 1) ((((hi - lo).toNat : Nat) : Int) - ((0 : Nat) : Int)) 1
    rw [e1, e2]
    exact Heap.get?_push_size _ rfl
  | false =>
    refine wpAny_pyIter_longrange (IsRange.new ..) hs ?_
    refine ⟨(s.heap.push { cls := .type "range", data := .fields #[.int lo t, .int hi u, .int 1 v] }).objs.size, [(s.heap.push { cls := .type "range", data := .fields #[.int lo t, .int hi u, .int 1 v] }).objs.size], _, _, H, rfl,
      I1.kept (t' := tk) fun b o e => Heap.get?_push_of_some _ e, turn_long _ lo (hi - lo).toNat, ?_, fp, q⟩
    show IsLongIter _ _ (lo + ((0 : Nat) : Int) * 1) ((((hi - lo).toNat : Nat) : Int) - ((0 : Nat) : Int)) 1
    rw [e1, e2]
    exact Heap.get?_push_size _ rfl
def iRngW (ta : TA) : TI := fun σ H R => ta σ H fun vs H1 => ∃ i j : Int, vs = [.int i, .int j] ∧ R (Itr i (j - i).toNat) H1
theorem pi_rangeW {a b : Expr} {ta : TA} {p pos : Pos} (hg : Gl X "range") (hm : X.mg "range" = none) (ha : PA X [a, b] ta) (hs : starEach [a, b] X.env = [(false, eval a X.env), (false, eval b X.env)] := by rfl) (hs2 : starEach [b] X.env = [(false, eval b X.env)] := by rfl) :
    PI X tg (.Call (.Name "range" p) [a, b] [] pos) (iRngW ta) := by
  refine ⟨fun pins s σ H R I h => ?_⟩
  refine Call_ (ld_blt I hg hm boot_range (PyProof.Rows.callWith_type1 (thn (ha.run pos pins s σ H _ I h) fun us s1 ⟨vs, H1, I1, r1, q1⟩ => ?_) (by rw [hs, hs2]) (by rw [hs2]; rfl)))
  obtain ⟨i, j, e, q⟩ := q1
  subst e
  cases r1 with
  | cons r rr =>
    cases rr with
    | cons r' rr =>
      cases rr
      obtain ⟨t, rfl⟩ := r
      obtain ⟨t', rfl⟩ := r'
      exact call_range_2 (range_itW I1 q)
end
def asRW (R : It → Hp → Prop) (vs : List V) (H : Hp) : Prop := ∃ i j : Int, vs = [.int i, .int j] ∧ R (Itr i (j - i).toNat) H
theorem x_forW {ta : TA} {g : TG} {tb : TS} {D : Ends} {σ : L2.St} {H : Hp} (h : ta σ H fun vs H1 => asRW (fun J H => forR g tb D σ J H) vs H1) : tFor (iRngW ta) g tb D σ H := h
theorem x_asRW {R : It → Hp → Prop} {H : Hp} {i j : Int} (h : R (Itr i (j - i).toNat) H) : asRW R [.int i, .int j] H := ⟨i, j, rfl, h⟩
end Wm

/-! Promises of the laws' own helpers. -/
namespace Wm
open PySem PySem.Spec PyProof.Rows L2
/-- a drum is drawn: a new tuple of its first and its step -/
def sp__law_drum : Sp := fun vs H Q _ => ∃ (a : Addr) (n : Int), vs = [.ref a] ∧ Src H a n ∧ n < 2 ^ 45 ∧
  ∀ (p : Addr) (H' : Hp) (f s : Int), 1 ≤ f → f ≤ 10 ^ 14 → 0 ≤ s → s ≤ 10 ^ 14 → Src H' a (n + 20) → But a H H' → H' p = some (.tup [.int f, .int s]) → Q (.ref p) H'
def sp__law_begins : Sp := fun vs H Q _ => ∃ f s t : Int, vs = [.int f, .int s, .int t] ∧ Bd 300 f ∧ Bd 300 s ∧ Bd 300 t ∧ Q (.int (Bg f s t)) H
def sp__law_turn : Sp := fun vs H Q _ => ∃ f s c : Int, vs = [.int f, .int s, .int c] ∧ 1 ≤ f ∧ Bd 200 f ∧ 0 ≤ s ∧ Bd 200 s ∧ 0 ≤ c ∧ c < 2 ^ 250 ∧ Q (.int (tOf f s c)) H
def sp__law_great : Sp := fun vs H Q _ => ∃ (a : Addr) (n m : Int), vs = [.ref a, .int m] ∧ Src H a n ∧ n < 2 ^ 46 ∧ 0 < m ∧ m < 2 ^ 1000 ∧
  ∀ (r : Int) (H' : Hp), 0 ≤ r → r < m → Src H' a (n + 3) → But a H H' → Q (.int r) H'
section
variable {K : PySem.W.Frag} {σ : L2.St} {H : Hp} {Q : VK} {E : XK} {p a q : Addr} {f s t c l n m : Int}
theorem y_law_drum (hs : Src H a n) (hn : n < 2 ^ 45) (h : ∀ (p : Addr) (H' : Hp) (f s : Int), 1 ≤ f → f ≤ 10 ^ 14 → 0 ≤ s → s ≤ 10 ^ 14 → Src H' a (n + 20) → But a H H' → H' p = some (.tup [.int f, .int s]) → Q (.ref p) H') : sp__law_drum [.ref a] H Q E := ⟨a, n, rfl, hs, hn, h⟩
theorem y_law_begins (bf : Bd 300 f) (bs : Bd 300 s) (bt : Bd 300 t) (h : Q (.int (Bg f s t)) H) : sp__law_begins [.int f, .int s, .int t] H Q E := ⟨f, s, t, rfl, bf, bs, bt, h⟩
theorem y_law_turn (f1 : 1 ≤ f) (bf : Bd 200 f) (s0 : 0 ≤ s) (bs : Bd 200 s) (c0 : 0 ≤ c) (c1 : c < 2 ^ 250) (h : Q (.int (tOf f s c)) H) : sp__law_turn [.int f, .int s, .int c] H Q E := ⟨f, s, c, rfl, f1, bf, s0, bs, c0, c1, h⟩
theorem y_great (hs : Src H a n) (hn : n < 2 ^ 46) (h0 : 0 < m) (h1 : m < 2 ^ 1000) (h : ∀ (r : Int) (H' : Hp), 0 ≤ r → r < m → Src H' a (n + 3) → But a H H' → Q (.int r) H') : sp__law_great [.ref a, .int m] H Q E := ⟨a, n, m, rfl, hs, hn, h0, h1, h⟩
end
/-- as the laws reckon it -/
theorem bg_law (f s t : Int) : t * f + s * t * (t - 1) / 2 = Bg f s t := by
  unfold Bg
  have h := tri2 t
  have e : s * t * (t - 1) = 2 * (s * (t * (t - 1) / 2)) := by
    generalize t * (t - 1) / 2 = d at *
    grind
  rw [e]
  omega
end Wm

/-! What touches what: the promises of the gaps. -/
namespace Wm
open PySem PySem.Spec PyProof.Rows L2
def metL (f s l z t : Int) : Int := Bg f s t + l * (f + t * s) / z
def metH (f s l z t : Int) : Int := Bg f s t + ((l + 1) * (f + t * s) - 1) / z
/-- a cell's place, its turn's size -/
def plc (f s c : Int) : Int := c - Bg f s (tOf f s c)
def siz (f s c : Int) : Int := f + tOf f s c * s
def bnL (f s c : Int) : Int := metL f s (plc f s c) (siz f s c) (tOf f s c - 1)
def bnH (f s c : Int) : Int := metH f s (plc f s c) (siz f s c) (tOf f s c - 1)
def abL (f s c : Int) : Int := metL f s (plc f s c) (siz f s c) (tOf f s c + 1)
def abH (f s c : Int) : Int := metH f s (plc f s c) (siz f s c) (tOf f s c + 1)
def gcdI (f s : Int) : Int := ((Nat.gcd f.natAbs s.natAbs : Nat) : Int)
def secN (f s c : Int) : Int := plc f s c / (siz f s c / gcdI f s)
def secC (f s c : Int) : Int := Bg f s (tOf f s c) / gcdI f s + (plc f s c) % (siz f s c / gcdI f s)
def pieI (f s n : Int) : Int := if tOf f s (n - 1) = 0 then 0 else gcdI f s * (tOf f s (n - 1) - 1) + secN f s (n - 1) + 1
def paiI (f s n : Int) : Int := if tOf f s (n - 1) = 0 then 0 else (n - f) + (bnH f s (n - 1) + 1) - pieI f s n
theorem plc_nn {f s c : Int} (hf : 1 ≤ f) (hs : 0 ≤ s) (hc : 0 ≤ c) : 0 ≤ plc f s c := by have := tOf_le hf hs hc; unfold plc; omega
theorem plc_lt {f s c : Int} (hf : 1 ≤ f) (hs : 0 ≤ s) (hc : 0 ≤ c) : plc f s c < siz f s c := by have := tOf_gt hf hs hc; unfold plc siz; omega
theorem gcdI_pos {f s : Int} (hf : 1 ≤ f) : 1 ≤ gcdI f s := by
  unfold gcdI
  have := Nat.gcd_pos_of_pos_left s.natAbs (show 0 < f.natAbs by omega)
  omega
theorem gcdI_le {f s : Int} (hf : 1 ≤ f) : gcdI f s ≤ f := by
  unfold gcdI
  have := Nat.le_of_dvd (show 0 < f.natAbs by omega) (Nat.gcd_dvd_left f.natAbs s.natAbs)
  omega
theorem gcdI_dl (f s : Int) : gcdI f s ∣ f := PySem.W.mg_dvd_left f s
theorem gcdI_dr (f s : Int) : gcdI f s ∣ s := PySem.W.mg_dvd_right f s
theorem gcdI_dz (f s t : Int) : gcdI f s ∣ f + t * s := Int.dvd_add (gcdI_dl f s) (Int.dvd_mul_of_dvd_right (gcdI_dr f s))
theorem dvd_part {g z : Int} (hg : 1 ≤ g) (hz : 1 ≤ z) (h : g ∣ z) : 1 ≤ z / g ∧ g * (z / g) = z := by
  obtain ⟨k, rfl⟩ := h
  rw [Int.mul_ediv_cancel_left _ (by omega)]
  refine ⟨?_, rfl⟩
  apply Classical.byContradiction
  intro q
  have := Int.mul_le_mul_of_nonneg_left (show k ≤ 0 by omega) (show 0 ≤ g by omega)
  omega
/-! ### promises -/
section
variable (K : PySem.W.Frag)
def sp__met : Sp := fun vs H Q _ => ∃ (p : Addr) (f s l z t : Int), vs = [.ref p, .int l, .int z, .int t] ∧ Drm K H p f s ∧ 0 ≤ l ∧ l < z ∧ z < 2 ^ 1000 ∧ 0 ≤ t ∧ t < 2 ^ 1000 ∧
  ∀ (q : Addr) (H' : Hp), Same H H' → H' q = some (.tup [.int (metL f s l z t), .int (metH f s l z t)]) → Q (.ref q) H'
def sp_beneath : Sp := fun vs H Q _ => ∃ (p : Addr) (f s c : Int), vs = [.ref p, .int c] ∧ Drm K H p f s ∧ 0 ≤ c ∧ c < 2 ^ 700 ∧
  (tOf f s c = 0 → ∀ H', Same H H' → Q .non H') ∧ (¬ tOf f s c = 0 → ∀ (q : Addr) (H' : Hp), Same H H' → H' q = some (.tup [.int (bnL f s c), .int (bnH f s c)]) → Q (.ref q) H')
def sp_above : Sp := fun vs H Q _ => ∃ (p : Addr) (f s n c : Int), vs = [.ref p, .int n, .int c] ∧ Drm K H p f s ∧ 1 ≤ n ∧ 0 ≤ c ∧ c < n ∧ n < 2 ^ 700 ∧
  (n ≤ abL f s c → ∀ H', Same H H' → Q .non H') ∧ (¬ n ≤ abL f s c → ∀ (q : Addr) (H' : Hp), Same H H' → H' q = some (.tup [.int (abL f s c), .int (min (abH f s c) (n - 1))]) → Q (.ref q) H')
def sp__sectors : Sp := fun vs H Q _ => ∃ (p : Addr) (f s : Int), vs = [.ref p] ∧ Drm K H p f s ∧ Q (.int (gcdI f s)) H
def sp_sector : Sp := fun vs H Q _ => ∃ (p : Addr) (f s c : Int), vs = [.ref p, .int c] ∧ Drm K H p f s ∧ 0 ≤ c ∧ c < 2 ^ 700 ∧
  ∀ (q : Addr) (H' : Hp), Same H H' → H' q = some (.tup [.int (secN f s c), .int (secC f s c)]) → Q (.ref q) H'
def sp_pieces : Sp := fun vs H Q _ => ∃ (p : Addr) (f s n : Int), vs = [.ref p, .int n] ∧ Drm K H p f s ∧ 1 ≤ n ∧ n < 2 ^ 600 ∧ ∀ H', Same H H' → Q (.int (pieI f s n)) H'
def sp_pairs : Sp := fun vs H Q _ => ∃ (p : Addr) (f s n : Int), vs = [.ref p, .int n] ∧ Drm K H p f s ∧ 1 ≤ n ∧ n < 2 ^ 600 ∧ ∀ H', Same H H' → Q (.int (paiI f s n)) H'
end
section
variable {K : PySem.W.Frag} {H : Hp} {Q : VK} {E : XK} {p a q : Addr} {f s t c l n m z : Int}
theorem y_met (d : Drm K H p f s) (h0 : 0 ≤ l) (h1 : l < z) (h2 : z < 2 ^ 1000) (h3 : 0 ≤ t) (h4 : t < 2 ^ 1000) (h : ∀ (q : Addr) (H' : Hp), Same H H' → H' q = some (.tup [.int (metL f s l z t), .int (metH f s l z t)]) → Q (.ref q) H') : sp__met K [.ref p, .int l, .int z, .int t] H Q E := ⟨p, f, s, l, z, t, rfl, d, h0, h1, h2, h3, h4, h⟩
theorem y_beneath (d : Drm K H p f s) (h0 : 0 ≤ c) (h1 : c < 2 ^ 700) (h : tOf f s c = 0 → ∀ H', Same H H' → Q .non H') (h' : ¬ tOf f s c = 0 → ∀ (q : Addr) (H' : Hp), Same H H' → H' q = some (.tup [.int (bnL f s c), .int (bnH f s c)]) → Q (.ref q) H') : sp_beneath K [.ref p, .int c] H Q E := ⟨p, f, s, c, rfl, d, h0, h1, h, h'⟩
theorem y_above (d : Drm K H p f s) (h0 : 1 ≤ n) (h1 : 0 ≤ c) (h2 : c < n) (h3 : n < 2 ^ 700) (h : n ≤ abL f s c → ∀ H', Same H H' → Q .non H') (h' : ¬ n ≤ abL f s c → ∀ (q : Addr) (H' : Hp), Same H H' → H' q = some (.tup [.int (abL f s c), .int (min (abH f s c) (n - 1))]) → Q (.ref q) H') : sp_above K [.ref p, .int n, .int c] H Q E := ⟨p, f, s, n, c, rfl, d, h0, h1, h2, h3, h, h'⟩
theorem y_sectors (d : Drm K H p f s) (h : Q (.int (gcdI f s)) H) : sp__sectors K [.ref p] H Q E := ⟨p, f, s, rfl, d, h⟩
theorem y_sector (d : Drm K H p f s) (h0 : 0 ≤ c) (h1 : c < 2 ^ 700) (h : ∀ (q : Addr) (H' : Hp), Same H H' → H' q = some (.tup [.int (secN f s c), .int (secC f s c)]) → Q (.ref q) H') : sp_sector K [.ref p, .int c] H Q E := ⟨p, f, s, c, rfl, d, h0, h1, h⟩
theorem y_pieces (d : Drm K H p f s) (h0 : 1 ≤ n) (h1 : n < 2 ^ 600) (h : ∀ H', Same H H' → Q (.int (pieI f s n)) H') : sp_pieces K [.ref p, .int n] H Q E := ⟨p, f, s, n, rfl, d, h0, h1, h⟩
theorem y_pairs (d : Drm K H p f s) (h0 : 1 ≤ n) (h1 : n < 2 ^ 600) (h : ∀ H', Same H H' → Q (.int (paiI f s n)) H') : sp_pairs K [.ref p, .int n] H Q E := ⟨p, f, s, n, rfl, d, h0, h1, h⟩
end
end Wm
namespace Wm
open PySem PySem.Spec PyProof.Rows L2
/-! ### promises of the laws' helpers, for gaps -/
def meets (u z l e : Int) : Prop := u * e < (l + 1) * z ∧ l * z < (u + 1) * e
instance (u z l e : Int) : Decidable (meets u z l e) := inferInstanceAs (Decidable (_ ∧ _))
def sp__law_meet : Sp := fun vs H Q _ => ∃ u z l e : Int, vs = [.int u, .int z, .int l, .int e] ∧ Bd 300 u ∧ Bd 300 z ∧ Bd 300 l ∧ Bd 300 e ∧ Q (.bl (decide (meets u z l e))) H
def sp__law_first_over : Sp := fun vs H Q _ => ∃ l z m : Int, vs = [.int l, .int z, .int m] ∧ 0 ≤ l ∧ l < z ∧ Bd 300 z ∧ 1 ≤ m ∧ Bd 300 m ∧ Q (.int (l * m / z)) H
def sp__law_spot : Sp := fun vs H Q _ => ∃ (a : Addr) (n f s e : Int), vs = [.ref a, .int f, .int s, .int e] ∧ Src H a n ∧ n < 2 ^ 40 ∧ 1 ≤ f ∧ f ≤ 10 ^ 14 ∧ 0 ≤ s ∧ s ≤ 10 ^ 14 ∧ 0 ≤ e ∧ e ≤ 9 ∧
  ∀ (p : Addr) (H' : Hp) (t l : Int), e ≤ t → t ≤ e + 10 ^ 7 → 0 ≤ l → l < f + t * s → Src H' a (n + 20) → But a H H' → H' p = some (.tup [.int t, .int l, .int (f + t * s), .int (Bg f s t + l)]) → Q (.ref p) H'
def sp__law_common : Sp := fun vs H Q _ => ∃ x y : Int, vs = [.int x, .int y] ∧ 0 ≤ x ∧ 0 ≤ y ∧ Q (.int (gcdI x y)) H
def sp__law_roll : Sp := fun vs H Q _ => ∃ (a : Addr) (n f s : Int), vs = [.ref a, .int f, .int s] ∧ Src H a n ∧ n < 2 ^ 40 ∧ 1 ≤ f ∧ f ≤ 10 ^ 14 ∧ 0 ≤ s ∧ s ≤ 10 ^ 14 ∧
  ∀ (p : Addr) (H' : Hp) (t l : Int), 1 ≤ t → t ≤ 10 ^ 7 → 1 ≤ l → l ≤ f + t * s → Src H' a (n + 20) → But a H H' → H' p = some (.tup [.int t, .int l, .int (Bg f s t + l)]) → Q (.ref p) H'
section
variable {K : PySem.W.Frag} {H : Hp} {Q : VK} {E : XK} {p a q : Addr} {f s t c l n m z u e x y : Int}
theorem y_meet (b1 : Bd 300 u) (b2 : Bd 300 z) (b3 : Bd 300 l) (b4 : Bd 300 e) (h : Q (.bl (decide (meets u z l e))) H) : sp__law_meet [.int u, .int z, .int l, .int e] H Q E := ⟨u, z, l, e, rfl, b1, b2, b3, b4, h⟩
theorem y_first_over (h0 : 0 ≤ l) (h1 : l < z) (bz : Bd 300 z) (m1 : 1 ≤ m) (bm : Bd 300 m) (h : Q (.int (l * m / z)) H) : sp__law_first_over [.int l, .int z, .int m] H Q E := ⟨l, z, m, rfl, h0, h1, bz, m1, bm, h⟩
theorem y_spot (hs : Src H a n) (hn : n < 2 ^ 40) (f1 : 1 ≤ f) (f2 : f ≤ 10 ^ 14) (s1 : 0 ≤ s) (s2 : s ≤ 10 ^ 14) (e0 : 0 ≤ e) (e9 : e ≤ 9)
    (h : ∀ (p : Addr) (H' : Hp) (t l : Int), e ≤ t → t ≤ e + 10 ^ 7 → 0 ≤ l → l < f + t * s → Src H' a (n + 20) → But a H H' → H' p = some (.tup [.int t, .int l, .int (f + t * s), .int (Bg f s t + l)]) → Q (.ref p) H') : sp__law_spot [.ref a, .int f, .int s, .int e] H Q E := ⟨a, n, f, s, e, rfl, hs, hn, f1, f2, s1, s2, e0, e9, h⟩
theorem y_common (h0 : 0 ≤ x) (h1 : 0 ≤ y) (h : Q (.int (gcdI x y)) H) : sp__law_common [.int x, .int y] H Q E := ⟨x, y, rfl, h0, h1, h⟩
theorem y_roll (hs : Src H a n) (hn : n < 2 ^ 40) (f1 : 1 ≤ f) (f2 : f ≤ 10 ^ 14) (s1 : 0 ≤ s) (s2 : s ≤ 10 ^ 14)
    (h : ∀ (p : Addr) (H' : Hp) (t l : Int), 1 ≤ t → t ≤ 10 ^ 7 → 1 ≤ l → l ≤ f + t * s → Src H' a (n + 20) → But a H H' → H' p = some (.tup [.int t, .int l, .int (Bg f s t + l)]) → Q (.ref p) H') : sp__law_roll [.ref a, .int f, .int s] H Q E := ⟨a, n, f, s, rfl, hs, hn, f1, f2, s1, s2, h⟩
end
theorem gcd_zero {x : Int} (h : 0 ≤ x) : gcdI x 0 = x := by unfold gcdI; simp; omega
theorem gcd_turn {x y : Int} (hx : 0 ≤ x) (hy : 0 < y) : gcdI y (x.fmod y) = gcdI x y := by
  obtain ⟨n, rfl⟩ := Int.eq_ofNat_of_zero_le hx
  obtain ⟨m, rfl⟩ := Int.eq_ofNat_of_zero_le (Int.le_of_lt hy)
  rw [Int.fmod_eq_emod_of_nonneg _ (by omega)]
  unfold gcdI
  have e : ((n : Int) % (m : Int)) = ((n % m : Nat) : Int) := by simp
  rw [e]
  simp only [Int.natAbs_natCast]
  rw [Nat.gcd_comm m (n % m), ← Nat.gcd_rec, Nat.gcd_comm]
end Wm
namespace Wm
open PySem PySem.Spec PyProof.Rows L2
theorem meets_mk {u z l e : Int} (h1 : u * e < (l + 1) * z) (h2 : l * z < (u + 1) * e) : meets u z l e := And.intro h1 h2
theorem meets_1 {u z l e : Int} (h : meets u z l e) : u * e < (l + 1) * z := And.left h
theorem meets_2 {u z l e : Int} (h : meets u z l e) : l * z < (u + 1) * e := And.right h
theorem div_bd (a z : Int) (hz : 0 < z) : a / z * z ≤ a ∧ a < a / z * z + z := by
  have h1 := Int.mul_ediv_add_emod a z
  have h2 := Int.emod_nonneg a (show z ≠ 0 by omega)
  have h3 := Int.emod_lt_of_pos a hz
  have h4 : a / z * z = z * (a / z) := Int.mul_comm _ _
  omega
theorem div_is {a z q : Int} (hz : 0 < z) (h1 : q * z ≤ a) (h2 : a < q * z + z) : a / z = q := by
  obtain ⟨b1, b2⟩ := div_bd a z hz
  generalize a / z = d at *
  apply Classical.byContradiction
  intro c
  rcases (by omega : d + 1 ≤ q ∨ q + 1 ≤ d) with e | e
  · have := Int.mul_le_mul_of_nonneg_right e (Int.le_of_lt hz)
    have e2 : (d + 1) * z = d * z + z := by grind
    omega
  · have := Int.mul_le_mul_of_nonneg_right e (Int.le_of_lt hz)
    have e2 : (q + 1) * z = q * z + z := by grind
    omega
/-- what lies on place l of a turn of z places: of one of m, no less, from lo to la -/
theorem over_facts {l z m : Int} (l0 : 0 ≤ l) (l1 : l < z) (hm : z ≤ m) :
    0 ≤ l * m / z ∧ l * m / z ≤ ((l + 1) * m - 1) / z ∧ ((l + 1) * m - 1) / z ≤ m - 1 ∧ meets (l * m / z) m l z ∧ (0 < l * m / z → ¬ meets (l * m / z - 1) m l z) ∧
    (l + 1 < z → (l + 1) * m / z - (if (!decide (meets ((l + 1) * m / z) m l z)) = true then 1 else 0) = ((l + 1) * m - 1) / z ∧ (l + 1) * m / z ≤ m) ∧ (¬ l + 1 < z → m - 1 = ((l + 1) * m - 1) / z) ∧
    meets (((l + 1) * m - 1) / z) m l z := by
  have z0 : 0 < z := by omega
  obtain ⟨a1, a2⟩ := div_bd (l * m) z z0
  obtain ⟨b1, b2⟩ := div_bd ((l + 1) * m - 1) z z0
  obtain ⟨c1, c2⟩ := div_bd ((l + 1) * m) z z0
  have e1 : (l + 1) * m = l * m + m := by grind
  have lm : 0 ≤ l * m := mul_nn l0 (by omega)
  have n0 : 0 ≤ l * m / z := Int.ediv_nonneg lm (by omega)
  have n1 : l * m / z ≤ ((l + 1) * m - 1) / z := Int.ediv_le_ediv z0 (by omega)
  have n3 : (l + 1) * m ≤ z * m := Int.mul_le_mul_of_nonneg_right (by omega) (by omega)
  have e3 : z * m = m * z := Int.mul_comm _ _
  have n2 : ((l + 1) * m - 1) / z ≤ m - 1 := by
    have : ((l + 1) * m - 1) / z < m := by
      rw [Int.ediv_lt_iff_lt_mul z0]
      omega
    omega
  have n4 : (l + 1) * m / z ≤ m := by
    have : (l + 1) * m / z ≤ m * z / z := Int.ediv_le_ediv z0 (by omega)
    rw [Int.mul_ediv_cancel _ (by omega)] at this
    exact this
  have n5 : ((l + 1) * m - 1) / z ≤ (l + 1) * m / z := Int.ediv_le_ediv z0 (by omega)
  generalize l * m / z = lo at *
  generalize ((l + 1) * m - 1) / z = la at *
  generalize (l + 1) * m / z = q at *
  have x1 : (lo + 1) * z = lo * z + z := by grind
  have x2 : (lo - 1 + 1) * z = lo * z := by grind
  have x3 : (q + 1) * z = q * z + z := by grind
  have x4 : (la + 1) * z = la * z + z := by grind
  have x5 : la * z ≤ q * z := Int.mul_le_mul_of_nonneg_right n5 (by omega)
  refine ⟨n0, n1, n2, meets_mk (by omega) (by omega), fun _ c => by have := meets_2 c; omega, fun c => ⟨?_, n4⟩, fun c => ?_, meets_mk (by omega) ?_⟩
  · by_cases d : meets q m l z
    · rw [decide_eq_true d]
      simp only [Bool.not_true, Bool.false_eq_true, if_false, Int.sub_zero]
      have := meets_1 d
      have : q * z ≤ (l + 1) * m - 1 := by omega
      apply Classical.byContradiction
      intro ne
      have : la + 1 ≤ q := by omega
      have := Int.mul_le_mul_of_nonneg_right this (Int.le_of_lt z0)
      omega
    · rw [decide_eq_false d]
      simp only [Bool.not_false, if_true]
      have : q * z = (l + 1) * m := by
        apply Classical.byContradiction
        intro ne
        exact d (meets_mk (by omega) (by omega))
      have y1 : la < q := by
        apply Classical.byContradiction
        intro c2
        have := Int.mul_le_mul_of_nonneg_right (show q ≤ la by omega) (Int.le_of_lt z0)
        omega
      apply Classical.byContradiction
      intro ne
      have := Int.mul_le_mul_of_nonneg_right (show la + 1 ≤ q - 1 by omega) (Int.le_of_lt z0)
      have y2 : (q - 1) * z = q * z - z := by grind
      omega
  · have e4 : l + 1 = z := by omega
    rw [e4] at b1 b2
    apply Classical.byContradiction
    intro ne
    have := Int.mul_le_mul_of_nonneg_right (show la + 1 ≤ m - 1 by omega) (Int.le_of_lt z0)
    have y2 : (m - 1) * z = m * z - z := by grind
    omega
  · have := Int.mul_le_mul_of_nonneg_right n1 (Int.le_of_lt z0)
    omega
theorem where_at {f s t l : Int} (hf : 1 ≤ f) (hs : 0 ≤ s) (ht : 0 ≤ t) (l0 : 0 ≤ l) (l1 : l < f + t * s) : tOf f s (Bg f s t + l) = t ∧ plc f s (Bg f s t + l) = l ∧ siz f s (Bg f s t + l) = f + t * s := by
  have h := bg_ge hf hs ht
  have e := tOf_eq hf hs ht (show Bg f s t ≤ Bg f s t + l by omega) (by omega) (by omega)
  refine ⟨e, ?_, ?_⟩
  · unfold plc; rw [e]; omega
  · unfold siz; rw [e]
theorem ab_at {f s t l : Int} (hf : 1 ≤ f) (hs : 0 ≤ s) (ht : 0 ≤ t) (l0 : 0 ≤ l) (l1 : l < f + t * s) :
    abL f s (Bg f s t + l) = Bg f s (t + 1) + l * (f + t * s + s) / (f + t * s) ∧ abH f s (Bg f s t + l) = Bg f s (t + 1) + ((l + 1) * (f + t * s + s) - 1) / (f + t * s) := by
  obtain ⟨e1, e2, e3⟩ := where_at hf hs ht l0 l1
  have e4 : f + (t + 1) * s = f + t * s + s := by grind
  unfold abL abH metL metH
  rw [e1, e2, e3, e4]
  exact ⟨rfl, rfl⟩
theorem x_iteJ {p A B C : Prop} [Decidable p] (h1 : p → C → A) (h2 : ¬ p → C → B) (h : C) : if decide p = true then A else B := x_ite (fun q => h1 q h) (fun q => h2 q h)
theorem x_neNN {K : PySem.W.Frag} {H : Hp} {Q : VK} (h : Q (.bl false) H) : rNeD K .non .non H Q := ⟨_, _, .non, .non, by decide, by decide, by
  have e : PyData.eqv .none .none = true := by rw [PyData.eqv]
  rw [e]; exact h⟩
end Wm

/-! Whole numbers: what the sectors lean on. -/
namespace Wm
theorem dvd_gen {a z x g : Int} (ha : 1 ≤ a) (hg : ((Int.gcd a z : Nat) : Int) = g) : a ∣ x * z ↔ a / g ∣ x := by
  have g0 : 0 < Int.gcd a z := Int.gcd_pos_of_ne_zero_left z (by omega)
  have g1 : 0 < g := by omega
  obtain ⟨w, hw⟩ : g ∣ a := by rw [← hg]; exact Int.gcd_dvd_left a z
  obtain ⟨v, hv⟩ : g ∣ z := by rw [← hg]; exact Int.gcd_dvd_right a z
  have e1 : a / g = w := by rw [hw]; exact Int.mul_ediv_cancel_left _ (by omega)
  have cop : Int.gcd w v = 1 := by
    have h := Int.gcd_mul_left g w v
    rw [← hw, ← hv] at h
    have h2 : ((Int.gcd a z : Nat) : Int) = (g.natAbs : Int) * ((Int.gcd w v : Nat) : Int) := by rw [h]; simp
    rw [hg] at h2
    have h3 : (g.natAbs : Int) = g := by omega
    rw [h3] at h2
    have h4 : g * 1 = g * ((Int.gcd w v : Nat) : Int) := by omega
    have h5 := Int.eq_of_mul_eq_mul_left (show g ≠ 0 by omega) h4
    omega
  rw [e1]
  constructor
  · intro h
    rw [hw, hv] at h
    have e2 : x * (g * v) = g * (x * v) := by grind
    rw [e2] at h
    have h2 : w ∣ x * v := Int.dvd_of_mul_dvd_mul_left (show g ≠ 0 by omega) h
    have h3 : w.natAbs ∣ x.natAbs * v.natAbs := by
      have := Int.natAbs_dvd_natAbs.mpr h2
      rwa [Int.natAbs_mul] at this
    have h4 : w.natAbs ∣ x.natAbs := Nat.Coprime.dvd_of_dvd_mul_right (show Nat.gcd w.natAbs v.natAbs = 1 from cop) h3
    exact Int.natAbs_dvd_natAbs.mp h4
  · rintro ⟨y, hy⟩
    rw [hw, hv, hy]
    exact ⟨y * v, by grind⟩
theorem gcd_up (f s t : Int) : ((Int.gcd (f + t * s) (f + t * s + s) : Nat) : Int) = gcdI f s := by
  have : Int.gcd (f + t * s) (f + t * s + s) = Int.gcd f s := by simp
  rw [this]; rfl
theorem gcd_down (f s t : Int) : ((Int.gcd (f + t * s + s) (f + t * s) : Nat) : Int) = gcdI f s := by
  rw [Int.gcd_comm]; exact gcd_up f s t
/-- (q z - 1) / a is one less than q z / a just where a goes into q z -/
theorem div_pred {a y : Int} (ha : 1 ≤ a) : y / a - (y - 1) / a = if a ∣ y then 1 else 0 := by
  obtain ⟨b1, b2⟩ := div_bd y a (by omega)
  by_cases h : a ∣ y
  · rw [if_pos h]
    obtain ⟨k, rfl⟩ := h
    have e1 : a * k / a = k := Int.mul_ediv_cancel_left _ (by omega)
    have e2 : (a * k - 1) / a = k - 1 := by
      refine div_is (by omega) ?_ ?_
      · have : (k - 1) * a = a * k - a := by grind
        omega
      · have : (k - 1) * a = a * k - a := by grind
        omega
    rw [e1, e2]; omega
  · rw [if_neg h]
    have hm : y / a * a ≠ y := fun q => h ⟨y / a, by rw [Int.mul_comm]; exact q.symm⟩
    have e2 : (y - 1) / a = y / a := div_is (by omega) (by omega) (by omega)
    rw [e2]; omega
theorem fmod_zero {x w : Int} (hw : 1 ≤ w) : x.fmod w = 0 ↔ w ∣ x := by
  rw [Int.fmod_eq_emod_of_nonneg _ (by omega)]
  exact ⟨Int.dvd_of_emod_eq_zero, Int.emod_eq_zero_of_dvd⟩
/-- x z / a against one less: by the sector -/
theorem over_step {f s t x : Int} (hf : 1 ≤ f) (hs : 0 ≤ s) (ht : 0 ≤ t) :
    x * (f + t * s + s) / (f + t * s) - (x * (f + t * s + s) - 1) / (f + t * s) = if decide (x.fmod ((f + t * s) / gcdI f s) = 0) = true then 1 else 0 := by
  have ts := mul_nn ht hs
  have ha : 1 ≤ f + t * s := by omega
  obtain ⟨w1, _⟩ := dvd_part (gcdI_pos hf) ha (gcdI_dz f s t)
  rw [div_pred ha]
  have e := dvd_gen (x := x) ha (gcd_up f s t)
  have e2 := fmod_zero (x := x) w1
  by_cases h : f + t * s ∣ x * (f + t * s + s)
  · rw [if_pos h, if_pos (by simpa using e2.mpr (e.mp h))]
  · rw [if_neg h, if_neg (by simpa using fun q => h (e.mpr (e2.mp q)))]
theorem under_step {f s t x : Int} (hf : 1 ≤ f) (hs : 0 ≤ s) (ht : 0 ≤ t) :
    x * (f + t * s) / (f + t * s + s) - (x * (f + t * s) - 1) / (f + t * s + s) = if decide (x.fmod ((f + t * s + s) / gcdI f s) = 0) = true then 1 else 0 := by
  have ts := mul_nn ht hs
  have ha : 1 ≤ f + t * s + s := by omega
  have e3 : f + t * s + s = f + (t + 1) * s := by grind
  obtain ⟨w1, _⟩ := dvd_part (gcdI_pos hf) ha (by rw [e3]; exact gcdI_dz f s (t + 1))
  rw [div_pred ha]
  have e := dvd_gen (x := x) ha (gcd_down f s t)
  have e2 := fmod_zero (x := x) w1
  by_cases h : f + t * s + s ∣ x * (f + t * s)
  · rw [if_pos h, if_pos (by simpa using e2.mpr (e.mp h))]
  · rw [if_neg h, if_neg (by simpa using fun q => h (e.mpr (e2.mp q)))]
/-- what a meeting is, by the upper one's and by the lower one's stretch -/
theorem meet_lo {u z l e : Int} (hz : 1 ≤ z) (he : 1 ≤ e) : (u * e / z ≤ l ∧ l ≤ ((u + 1) * e - 1) / z) ↔ meets u z l e := by
  obtain ⟨a1, a2⟩ := div_bd (u * e) z (by omega)
  obtain ⟨b1, b2⟩ := div_bd ((u + 1) * e - 1) z (by omega)
  constructor
  · rintro ⟨h1, h2⟩
    have c1 := Int.mul_le_mul_of_nonneg_right h1 (show 0 ≤ z by omega)
    have c2 := Int.mul_le_mul_of_nonneg_right h2 (show 0 ≤ z by omega)
    have x : (l + 1) * z = l * z + z := by grind
    exact meets_mk (by omega) (by omega)
  · intro h
    have h1 := meets_1 h
    have h2 := meets_2 h
    have x : (l + 1) * z = l * z + z := by grind
    constructor
    · apply Classical.byContradiction
      intro c
      have := Int.mul_le_mul_of_nonneg_right (show l + 1 ≤ u * e / z by omega) (show 0 ≤ z by omega)
      omega
    · apply Classical.byContradiction
      intro c
      have := Int.mul_le_mul_of_nonneg_right (show ((u + 1) * e - 1) / z + 1 ≤ l by omega) (show 0 ≤ z by omega)
      have y : (((u + 1) * e - 1) / z + 1) * z = ((u + 1) * e - 1) / z * z + z := by grind
      omega
theorem meet_hi {u z l e : Int} (hz : 1 ≤ z) (he : 1 ≤ e) : (l * z / e ≤ u ∧ u ≤ ((l + 1) * z - 1) / e) ↔ meets u z l e := by
  rw [meet_lo he hz]
  constructor
  · intro h; exact meets_mk (meets_2 h) (meets_1 h)
  · intro h; exact meets_mk (meets_2 h) (meets_1 h)
end Wm
namespace Wm
open PySem PySem.Spec PyProof.Rows L2
theorem bn_at {f s u l : Int} (hf : 1 ≤ f) (hs : 0 ≤ s) (hu : 0 ≤ u) (l0 : 0 ≤ l) (l1 : l < f + u * s + s) :
    tOf f s (Bg f s (u + 1) + l) = u + 1 ∧ bnL f s (Bg f s (u + 1) + l) = Bg f s u + l * (f + u * s) / (f + u * s + s) ∧ bnH f s (Bg f s (u + 1) + l) = Bg f s u + ((l + 1) * (f + u * s) - 1) / (f + u * s + s) := by
  have e4 : f + (u + 1) * s = f + u * s + s := by grind
  obtain ⟨e1, e2, e3⟩ := where_at (t := u + 1) (l := l) hf hs (by omega) l0 (by omega)
  have e5 : u + 1 - 1 = u := by omega
  unfold bnL bnH metL metH
  rw [e1, e2, e3, e4, e5]
  exact ⟨rfl, rfl, rfl⟩
theorem x_rNeB {H : Hp} {Q : VK} {a b : Prop} [Decidable a] [Decidable b] (h : Q (.bl (!decide (a ↔ b))) H) : rNe (.bl (decide a)) (.bl (decide b)) H Q := ⟨rfl, by
  have e : decide (V.bl (decide a) = V.bl (decide b)) = decide (a ↔ b) := by by_cases x : a <;> by_cases y : b <;> simp [x, y]
  rw [e]; exact h⟩
theorem x_rNeB0 {H : Hp} {Q : VK} {a : Prop} [Decidable a] (h : Q (.bl (!decide ¬ a)) H) : rNe (.bl (decide a)) (.bl false) H Q := ⟨rfl, by
  have e : decide (V.bl (decide a) = V.bl false) = decide ¬ a := by by_cases x : a <;> simp [x]
  rw [e]; exact h⟩
theorem x_rNe0B {H : Hp} {Q : VK} {a : Prop} [Decidable a] (h : Q (.bl (!decide ¬ a)) H) : rNe (.bl false) (.bl (decide a)) H Q := ⟨rfl, by
  have e : decide (V.bl false = V.bl (decide a)) = decide ¬ a := by by_cases x : a <;> simp [x]
  rw [e]; exact h⟩
theorem x_rNe00 {H : Hp} {Q : VK} (h : Q (.bl (!decide True)) H) : rNe (.bl false) (.bl false) H Q := ⟨rfl, by simpa using h⟩
end Wm

/-! Pairs and pieces, counted by one cell more. -/
namespace Wm
open PySem PySem.Spec PyProof.Rows L2
def onI (f s t l : Int) : Int := 1 + (if decide ((l * (f + t * s - s) / (f + t * s) + 1) * (f + t * s) < (l + 1) * (f + t * s - s)) = true then 1 else 0)
def newI (f s t l : Int) : Int := if decide (l.fmod ((f + t * s) / gcdI f s) = 0) = true then 1 else 0
theorem over_one {l z e : Int} (hz : 1 ≤ z) (he : 1 ≤ e) (hez : e ≤ z) : ((l + 1) * e - 1) / z = l * e / z + (if decide ((l * e / z + 1) * z < (l + 1) * e) = true then 1 else 0) := by
  obtain ⟨a1, a2⟩ := div_bd (l * e) z (by omega)
  have e1 : (l + 1) * e = l * e + e := by grind
  have x : (l * e / z + 1) * z = l * e / z * z + z := by grind
  have y : (l * e / z + 1) * z = l * e / z * z + z := by grind
  by_cases h : (l * e / z + 1) * z < (l + 1) * e
  · simp only [h, decide_true, if_true]
    exact div_is (by omega) (by omega) (by omega)
  · simp only [h, decide_false, Bool.false_eq_true, if_false, Int.add_zero]
    exact div_is (by omega) (by omega) (by omega)
theorem small_div {a z : Int} (h0 : 0 ≤ a) (h1 : a < z) : a / z = 0 := Int.ediv_eq_zero_of_lt h0 h1
/-- one cell more -/
theorem count_step {f s t l : Int} (hf : 1 ≤ f) (hs : 0 ≤ s) (ht : 0 ≤ t) (l0 : 0 ≤ l) (l1 : l < f + t * s) (h : 1 ≤ Bg f s t + l) :
    (t = 0 → paiI f s (Bg f s t + l + 1) - paiI f s (Bg f s t + l) = 0 ∧ pieI f s (Bg f s t + l + 1) - pieI f s (Bg f s t + l) = 0) ∧
    (0 < t → paiI f s (Bg f s t + l + 1) - paiI f s (Bg f s t + l) = onI f s t l ∧ pieI f s (Bg f s t + l + 1) - pieI f s (Bg f s t + l) = newI f s t l) := by
  have ec : Bg f s t + l + 1 - 1 = Bg f s t + l := by omega
  have gp := gcdI_pos (s := s) hf
  obtain ⟨w1, w2, w3⟩ := where_at hf hs ht l0 l1
  constructor
  · intro e
    subst e
    have b0 := bg0 f s
    have z0 : f + 0 * s = f := by grind
    rw [z0] at l1
    have t2 : tOf f s (Bg f s 0 + l - 1) = 0 := tOf_eq hf hs (Int.le_refl 0) (by omega) (by omega) (by omega)
    unfold paiI pieI
    rw [ec, if_pos w1, if_pos w1, if_pos t2, if_pos t2]
    exact ⟨by omega, by omega⟩
  · intro t1
    obtain ⟨u, rfl⟩ : ∃ u, t = u + 1 := ⟨t - 1, by omega⟩
    have u0 : 0 ≤ u := by omega
    have eZ : f + (u + 1) * s = f + u * s + s := by grind
    have us := mul_nn u0 hs
    have bs := bg_succ f s u
    have bu := bg_ge hf hs u0
    rw [eZ] at l1 w3
    obtain ⟨_, n2, n3⟩ := bn_at hf hs u0 l0 l1
    have hA : 1 ≤ f + u * s := by omega
    have hZ : 1 ≤ f + u * s + s := by omega
    have dz := gcdI_dz f s (u + 1)
    rw [eZ] at dz
    obtain ⟨p1, p2⟩ := dvd_part gp hZ dz
    obtain ⟨p3, p4⟩ := dvd_part gp hA (gcdI_dz f s u)
    have O := over_one (l := l) hZ hA (by omega)
    have eon : onI f s (u + 1) l = 1 + (((l + 1) * (f + u * s) - 1) / (f + u * s + s) - l * (f + u * s) / (f + u * s + s)) := by
      unfold onI
      rw [eZ, Int.add_sub_cancel, O]
      omega
    have enew : newI f s (u + 1) l = if decide (l.fmod ((f + u * s + s) / gcdI f s) = 0) = true then 1 else 0 := by unfold newI; rw [eZ]
    have U := under_step (x := l) hf hs u0
    rw [← enew] at U
    have sec : secN f s (Bg f s (u + 1) + l) = l / ((f + u * s + s) / gcdI f s) := by unfold secN; rw [w2, w3]
    have e1 : pieI f s (Bg f s (u + 1) + l + 1) = gcdI f s * u + l / ((f + u * s + s) / gcdI f s) + 1 := by
      unfold pieI
      rw [ec, w1, if_neg (by omega), sec, Int.add_sub_cancel]
    have e2 : paiI f s (Bg f s (u + 1) + l + 1) = (Bg f s (u + 1) + l + 1 - f) + (Bg f s u + ((l + 1) * (f + u * s) - 1) / (f + u * s + s) + 1) - pieI f s (Bg f s (u + 1) + l + 1) := by
      have q : ∀ n, ¬ tOf f s (n - 1) = 0 → paiI f s n = (n - f) + (bnH f s (n - 1) + 1) - pieI f s n := fun n hn => by unfold paiI; rw [if_neg hn]
      rw [q _ (by rw [ec, w1]; omega), ec, n3]
    by_cases hl : l = 0
    · subst hl
      have z1 : (0 : Int) / ((f + u * s + s) / gcdI f s) = 0 := by simp
      have z2 : ((0 + 1) * (f + u * s) - 1) / (f + u * s + s) = 0 := small_div (by omega) (by omega)
      have z3 : (0 : Int) * (f + u * s) / (f + u * s + s) = 0 := by simp
      have z4 : newI f s (u + 1) 0 = 1 := by rw [enew]; simp
      rw [z1] at e1
      rw [z2] at e2 eon
      rw [z3] at eon
      have ea : Bg f s (u + 1) + 0 = Bg f s u + (f + u * s) := by omega
      by_cases hu : u = 0
      · subst hu
        have b0 := bg0 f s
        have zz : f + 0 * s = f := by grind
        have t2 : tOf f s (Bg f s (0 + 1) + 0 - 1) = 0 := tOf_eq hf hs (Int.le_refl 0) (by omega) (by omega) (by omega)
        have e3 : pieI f s (Bg f s (0 + 1) + 0) = 0 := by unfold pieI; rw [if_pos t2]
        have e4 : paiI f s (Bg f s (0 + 1) + 0) = 0 := by unfold paiI; rw [if_pos t2]
        have z9 : gcdI f s * 0 = 0 := Int.mul_zero _
        rw [z9] at e1
        exact ⟨by omega, by omega⟩
      · obtain ⟨v, rfl⟩ : ∃ v, u = v + 1 := ⟨u - 1, by omega⟩
        have v0 : 0 ≤ v := by omega
        have vs := mul_nn v0 hs
        have eA : f + (v + 1) * s = f + v * s + s := by grind
        have bs2 := bg_succ f s v
        have el : Bg f s (v + 1 + 1) + 0 - 1 = Bg f s (v + 1) + (f + v * s + s - 1) := by rw [eA] at ea; omega
        obtain ⟨m1, m2, m3⟩ := bn_at (l := f + v * s + s - 1) hf hs v0 (by omega) (by omega)
        obtain ⟨x1, x2, x3⟩ := where_at (t := v + 1) (l := f + v * s + s - 1) hf hs (by omega) (by omega) (by rw [eA]; omega)
        rw [eA] at x3 p3 p4
        have q3 : (f + v * s + s - 1) / ((f + v * s + s) / gcdI f s) = gcdI f s - 1 := by
          generalize (f + v * s + s) / gcdI f s = w at *
          refine div_is (by omega) ?_ ?_
          · have : (gcdI f s - 1) * w = gcdI f s * w - w := by grind
            omega
          · have : (gcdI f s - 1) * w = gcdI f s * w - w := by grind
            omega
        have q4 : ((f + v * s + s - 1 + 1) * (f + v * s) - 1) / (f + v * s + s) = f + v * s - 1 := by
          refine div_is (by omega) ?_ ?_
          · have h1 : (f + v * s + s - 1 + 1) * (f + v * s) = (f + v * s) * (f + v * s + s) := by grind
            have h2 : (f + v * s - 1) * (f + v * s + s) = (f + v * s) * (f + v * s + s) - (f + v * s + s) := by grind
            omega
          · have h1 : (f + v * s + s - 1 + 1) * (f + v * s) = (f + v * s) * (f + v * s + s) := by grind
            have h2 : (f + v * s - 1) * (f + v * s + s) = (f + v * s) * (f + v * s + s) - (f + v * s + s) := by grind
            omega
        have sec2 : secN f s (Bg f s (v + 1) + (f + v * s + s - 1)) = gcdI f s - 1 := by unfold secN; rw [x2, x3, q3]
        have e3 : pieI f s (Bg f s (v + 1 + 1) + 0) = gcdI f s * (v + 1) := by
          unfold pieI
          rw [el, x1, if_neg (by omega), sec2]
          grind
        have e4 : paiI f s (Bg f s (v + 1 + 1) + 0) = (Bg f s (v + 1 + 1) + 0 - f) + (Bg f s v + (f + v * s - 1) + 1) - pieI f s (Bg f s (v + 1 + 1) + 0) := by
          have q : ∀ n, ¬ tOf f s (n - 1) = 0 → paiI f s n = (n - f) + (bnH f s (n - 1) + 1) - pieI f s n := fun n hn => by unfold paiI; rw [if_neg hn]
          rw [q _ (by rw [el, x1]; omega), el, m3, q4]
        exact ⟨by omega, by omega⟩
    · have el : Bg f s (u + 1) + l - 1 = Bg f s (u + 1) + (l - 1) := by omega
      obtain ⟨m1, m2, m3⟩ := bn_at (l := l - 1) hf hs u0 (by omega) (by omega)
      obtain ⟨x1, x2, x3⟩ := where_at (t := u + 1) (l := l - 1) hf hs (by omega) (by omega) (by rw [eZ]; omega)
      rw [eZ] at x3
      have sec2 : secN f s (Bg f s (u + 1) + (l - 1)) = (l - 1) / ((f + u * s + s) / gcdI f s) := by unfold secN; rw [x2, x3]
      have e3 : pieI f s (Bg f s (u + 1) + l) = gcdI f s * u + (l - 1) / ((f + u * s + s) / gcdI f s) + 1 := by
        unfold pieI
        rw [el, x1, if_neg (by omega), sec2, Int.add_sub_cancel]
      have e5 : l - 1 + 1 = l := by omega
      rw [e5] at m3
      have e4 : paiI f s (Bg f s (u + 1) + l) = (Bg f s (u + 1) + l - f) + (Bg f s u + (l * (f + u * s) - 1) / (f + u * s + s) + 1) - pieI f s (Bg f s (u + 1) + l) := by
        have q : ∀ n, ¬ tOf f s (n - 1) = 0 → paiI f s n = (n - f) + (bnH f s (n - 1) + 1) - pieI f s n := fun n hn => by unfold paiI; rw [if_neg hn]
        rw [q _ (by rw [el, x1]; omega), el, m3]
      have D := div_pred (y := l) p1
      have FZ := fmod_zero (x := l) p1
      have D2 : l / ((f + u * s + s) / gcdI f s) - (l - 1) / ((f + u * s + s) / gcdI f s) = newI f s (u + 1) l := by
        rw [D, enew]
        by_cases hd : (f + u * s + s) / gcdI f s ∣ l
        · rw [if_pos hd, if_pos (by simpa using FZ.mpr hd)]
        · rw [if_neg hd, if_neg (by simpa using fun q => hd (FZ.mp q))]
      exact ⟨by omega, by omega⟩
end Wm
namespace Wm
open PySem PySem.Spec PyProof.Rows L2
theorem bg_many {f s t : Int} (hs : 0 ≤ s) (ht : 0 ≤ t) : t * f ≤ Bg f s t := by
  unfold Bg
  have h := tri2 t
  have : 0 ≤ t * (t - 1) := by
    by_cases z : t = 0
    · subst z; simp
    · exact mul_nn ht (by omega)
  have : 0 ≤ s * (t * (t - 1) / 2) := mul_nn hs (by omega)
  omega
theorem pai_ge {f s t l : Int} (hf : 1 ≤ f) (hs : 0 ≤ s) (ht : 0 ≤ t) (l0 : 0 ≤ l) (l1 : l < f + t * s) : pieI f s (Bg f s t + l + 1) ≤ paiI f s (Bg f s t + l + 1) := by
  have ec : Bg f s t + l + 1 - 1 = Bg f s t + l := by omega
  have gp := gcdI_pos (s := s) hf
  have gl := gcdI_le (s := s) hf
  obtain ⟨w1, w2, w3⟩ := where_at hf hs ht l0 l1
  by_cases e : t = 0
  · unfold paiI pieI
    rw [ec, w1, if_pos e, if_pos e]
    exact Int.le_refl 0
  · obtain ⟨u, rfl⟩ : ∃ u, t = u + 1 := ⟨t - 1, by omega⟩
    have u0 : 0 ≤ u := by omega
    have eZ : f + (u + 1) * s = f + u * s + s := by grind
    have us := mul_nn u0 hs
    have bs := bg_succ f s u
    have b1 := bg_many (f := f) hs u0
    have b2 := bg_many (f := f) hs (show 0 ≤ u + 1 by omega)
    have b3 : (u + 1) * f = u * f + f := by grind
    have b4 : gcdI f s * u ≤ f * u := Int.mul_le_mul_of_nonneg_right gl u0
    have b5 : f * u = u * f := Int.mul_comm _ _
    rw [eZ] at l1 w3
    obtain ⟨_, n2, n3⟩ := bn_at hf hs u0 l0 l1
    have hA : 1 ≤ f + u * s := by omega
    have hZ : 1 ≤ f + u * s + s := by omega
    have dz := gcdI_dz f s (u + 1)
    rw [eZ] at dz
    obtain ⟨p1, p2⟩ := dvd_part gp hZ dz
    obtain ⟨p3, p4⟩ := dvd_part gp hA (gcdI_dz f s u)
    have sec : secN f s (Bg f s (u + 1) + l) = l / ((f + u * s + s) / gcdI f s) := by unfold secN; rw [w2, w3]
    have e1 : pieI f s (Bg f s (u + 1) + l + 1) = gcdI f s * u + l / ((f + u * s + s) / gcdI f s) + 1 := by
      unfold pieI
      rw [ec, w1, if_neg (by omega), sec, Int.add_sub_cancel]
    have e2 : paiI f s (Bg f s (u + 1) + l + 1) = (Bg f s (u + 1) + l + 1 - f) + (Bg f s u + ((l + 1) * (f + u * s) - 1) / (f + u * s + s) + 1) - pieI f s (Bg f s (u + 1) + l + 1) := by
      have q : ∀ n, ¬ tOf f s (n - 1) = 0 → paiI f s n = (n - f) + (bnH f s (n - 1) + 1) - pieI f s n := fun n hn => by unfold paiI; rw [if_neg hn]
      rw [q _ (by rw [ec, w1]; omega), ec, n3]
    have c1 : l / ((f + u * s + s) / gcdI f s) ≤ l := Int.ediv_le_self _ l0
    obtain ⟨d1, d2⟩ := div_bd l ((f + u * s + s) / gcdI f s) (by omega)
    have c2 : l / ((f + u * s + s) / gcdI f s) ≤ ((l + 1) * (f + u * s) - 1) / (f + u * s + s) := by
      rw [Int.le_ediv_iff_mul_le (by omega)]
      generalize (f + u * s + s) / gcdI f s = w at *
      generalize l / w = N at *
      have h1 : N * (f + u * s + s) = gcdI f s * (N * w) := by rw [← p2]; grind
      have h2 : gcdI f s * (N * w) ≤ gcdI f s * l := Int.mul_le_mul_of_nonneg_left d1 (by omega)
      have h3 : (l + 1) * gcdI f s ≤ (l + 1) * (f + u * s) := Int.mul_le_mul_of_nonneg_left (by omega) (by omega)
      have h4 : (l + 1) * gcdI f s = gcdI f s * l + gcdI f s := by grind
      omega
    omega
def sp__law_on : Sp := fun vs H Q _ => ∃ f s t l : Int, vs = [.int f, .int s, .int t, .int l] ∧ Bd 100 f ∧ Bd 100 s ∧ Bd 100 t ∧ Bd 300 l ∧ 1 ≤ f + t * s ∧ Q (.int (onI f s t l)) H
def sp__law_step_right (K : PySem.W.Frag) : Sp := fun vs H Q _ => ∃ (p : Addr) (f s t l : Int), vs = [.ref p, .int f, .int s, .int t, .int l] ∧ Drm K H p f s ∧ 0 ≤ t ∧ Bd 40 t ∧ 0 ≤ l ∧ l < f + t * s ∧ ∀ H', Same H H' → Q (.bl true) H'
section
variable {K : PySem.W.Frag} {H : Hp} {Q : VK} {E : XK} {p : Addr} {f s t l : Int}
theorem y_on (b1 : Bd 100 f) (b2 : Bd 100 s) (b3 : Bd 100 t) (b4 : Bd 300 l) (z : 1 ≤ f + t * s) (h : Q (.int (onI f s t l)) H) : sp__law_on [.int f, .int s, .int t, .int l] H Q E := ⟨f, s, t, l, rfl, b1, b2, b3, b4, z, h⟩
theorem y_step_right (d : Drm K H p f s) (t0 : 0 ≤ t) (bt : Bd 40 t) (l0 : 0 ≤ l) (l1 : l < f + t * s) (h : ∀ H', Same H H' → Q (.bl true) H') : sp__law_step_right K [.ref p, .int f, .int s, .int t, .int l] H Q E := ⟨p, f, s, t, l, rfl, d, t0, bt, l0, l1, h⟩
end
end Wm

/-! From which cell on nothing lies on the outward faces. -/
namespace Wm
open PySem PySem.Spec PyProof.Rows L2
/-- a cell by its turn and place -/
theorem cell_tl {f s c : Int} (hf : 1 ≤ f) (hs : 0 ≤ s) (hc : 0 ≤ c) : ∃ t l, c = Bg f s t + l ∧ 0 ≤ t ∧ 0 ≤ l ∧ l < f + t * s :=
  ⟨tOf f s c, plc f s c, by unfold plc; omega, tOf_nn hf hs hc, plc_nn hf hs hc, plc_lt hf hs hc⟩
theorem ab_next {f s c : Int} (hf : 1 ≤ f) (hs : 0 ≤ s) (hc : 0 ≤ c) : abL f s c ≤ abL f s (c + 1) ∧ abL f s (c + 1) ≤ abH f s c + 1 ∧ c < abL f s c := by
  obtain ⟨t, l, rfl, t0, l0, l1⟩ := cell_tl hf hs hc
  obtain ⟨aL, aH⟩ := ab_at hf hs t0 l0 l1
  obtain ⟨o0, o1, o2, _⟩ := over_facts l0 l1 (show f + t * s ≤ f + t * s + s by omega)
  have ts := mul_nn t0 hs
  have bs := bg_succ f s t
  have bs2 := bg_succ f s (t + 1)
  have eZ : f + (t + 1) * s = f + t * s + s := by grind
  rw [eZ] at bs2
  by_cases h : l + 1 < f + t * s
  · have e : Bg f s t + l + 1 = Bg f s t + (l + 1) := by omega
    obtain ⟨aL2, _⟩ := ab_at (l := l + 1) hf hs t0 (by omega) h
    rw [e, aL, aL2, aH]
    have m1 : l * (f + t * s + s) ≤ (l + 1) * (f + t * s + s) := Int.mul_le_mul_of_nonneg_right (by omega) (by omega)
    have m2 := Int.ediv_le_ediv (show 0 < f + t * s by omega) m1
    have d := div_pred (y := (l + 1) * (f + t * s + s)) (show 1 ≤ f + t * s by omega)
    have d2 : (l + 1) * (f + t * s + s) / (f + t * s) ≤ ((l + 1) * (f + t * s + s) - 1) / (f + t * s) + 1 := by
      split at d <;> omega
    exact ⟨by omega, by omega, by omega⟩
  · have e : Bg f s t + l + 1 = Bg f s (t + 1) + 0 := by omega
    obtain ⟨aL2, _⟩ := ab_at (t := t + 1) (l := 0) hf hs (by omega) (by omega) (by rw [eZ]; omega)
    have el : l + 1 = f + t * s := by omega
    have q : ((l + 1) * (f + t * s + s) - 1) / (f + t * s) = f + t * s + s - 1 := by
      rw [el]
      refine div_is (by omega) ?_ ?_
      · have h1 : (f + t * s) * (f + t * s + s) = (f + t * s + s) * (f + t * s) := Int.mul_comm _ _
        have h2 : (f + t * s + s - 1) * (f + t * s) = (f + t * s + s) * (f + t * s) - (f + t * s) := by grind
        omega
      · have h1 : (f + t * s) * (f + t * s + s) = (f + t * s + s) * (f + t * s) := Int.mul_comm _ _
        have h2 : (f + t * s + s - 1) * (f + t * s) = (f + t * s + s) * (f + t * s) - (f + t * s) := by grind
        omega
    have z : (0 : Int) * (f + (t + 1) * s + s) / (f + (t + 1) * s) = 0 := by simp
    rw [e, aL, aL2, aH, q, z]
    exact ⟨by omega, by omega, by omega⟩
theorem ab_mono {f s : Int} (hf : 1 ≤ f) (hs : 0 ≤ s) {c : Int} (hc : 0 ≤ c) (k : Nat) : abL f s c ≤ abL f s (c + k) := by
  induction k with
  | zero => simp
  | succ k ih =>
    have := (ab_next hf hs (show 0 ≤ c + (k : Int) by omega)).1
    have e : c + ((k + 1 : Nat) : Int) = c + (k : Int) + 1 := by omega
    rw [e]
    omega
theorem ab_le {f s c d : Int} (hf : 1 ≤ f) (hs : 0 ≤ s) (hc : 0 ≤ c) (h : c ≤ d) : abL f s c ≤ abL f s d := by
  have := ab_mono hf hs hc (d - c).toNat
  have e : c + ((d - c).toNat : Int) = d := by omega
  rwa [e] at this
/-- the first bare cell -/
def Bare (f s n b : Int) : Prop := 0 ≤ b ∧ b ≤ n - 1 ∧ n ≤ abL f s b ∧ (0 < b → abL f s (b - 1) < n)
theorem bare_count {f s n b : Int} (hf : 1 ≤ f) (hs : 0 ≤ s) (hn : 1 ≤ n) (h : Bare f s n b) : paiI f s n + pieI f s n = n - min n f + b := by
  obtain ⟨b0, b1, b2, b3⟩ := h
  obtain ⟨t, l, hc, t0, l0, l1⟩ := cell_tl hf hs (show 0 ≤ n - 1 by omega)
  obtain ⟨w1, w2, w3⟩ := where_at hf hs t0 l0 l1
  rw [← hc] at w1 w2 w3
  have B0 := bg0 f s
  by_cases e : t = 0
  · subst e
    have z0 : f + 0 * s = f := by grind
    rw [z0] at l1
    have : b = 0 := by
      apply Classical.byContradiction
      intro q
      have h1 := b3 (by omega)
      obtain ⟨aL, _⟩ := ab_at (t := 0) (l := 0) hf hs (by omega) (by omega) (by omega)
      have h2 := ab_le hf hs (show 0 ≤ Bg f s 0 + 0 by omega) (show Bg f s 0 + 0 ≤ b - 1 by omega)
      have z : (0 : Int) * (f + 0 * s + s) / (f + 0 * s) = 0 := by simp
      rw [aL, z] at h2
      have := bg_succ f s 0
      omega
    unfold paiI pieI
    rw [if_pos w1, if_pos w1]
    omega
  · obtain ⟨u, rfl⟩ : ∃ u, t = u + 1 := ⟨t - 1, by omega⟩
    have u0 : 0 ≤ u := by omega
    have eZ : f + (u + 1) * s = f + u * s + s := by grind
    have us := mul_nn u0 hs
    have bs := bg_succ f s u
    have bs2 := bg_succ f s (u + 1)
    have bu := bg_ge hf hs u0
    have bm := bg_many (f := f) hs (show 0 ≤ u + 1 by omega)
    have bm2 : (u + 1) * f = u * f + f := by grind
    have uf := mul_nn u0 (show 0 ≤ f by omega)
    rw [eZ] at l1 w3 bs2
    obtain ⟨_, n2, n3⟩ := bn_at hf hs u0 l0 l1
    rw [← hc] at n3
    have H0 : 0 ≤ ((l + 1) * (f + u * s) - 1) / (f + u * s + s) := Int.ediv_nonneg (by have := mul_ge1 (show 1 ≤ l + 1 by omega) (show 1 ≤ f + u * s by omega); omega) (by omega)
    obtain ⟨d1, d2⟩ := div_bd ((l + 1) * (f + u * s) - 1) (f + u * s + s) (by omega)
    have m0 : (l + 1) * (f + u * s) ≤ (f + u * s + s) * (f + u * s) := Int.mul_le_mul_of_nonneg_right (by omega) (by omega)
    have m1 : (f + u * s + s) * (f + u * s) = (f + u * s) * (f + u * s + s) := Int.mul_comm _ _
    have H1 : ((l + 1) * (f + u * s) - 1) / (f + u * s + s) < f + u * s := by
      rw [Int.ediv_lt_iff_lt_mul (by omega)]
      omega
    have main : b = Bg f s u + ((l + 1) * (f + u * s) - 1) / (f + u * s + s) + 1 := by
      generalize ((l + 1) * (f + u * s) - 1) / (f + u * s + s) = h at *
      have x1 : (h + 1) * (f + u * s + s) = h * (f + u * s + s) + (f + u * s + s) := by grind
      -- at h itself
      obtain ⟨aL, _⟩ := ab_at (l := h) hf hs u0 H0 H1
      have p1 : h * (f + u * s + s) / (f + u * s) ≤ l := by
        have : h * (f + u * s + s) / (f + u * s) < l + 1 := by
          rw [Int.ediv_lt_iff_lt_mul (by omega)]
          omega
        omega
      -- behind it
      have p2 : n ≤ abL f s (Bg f s u + h + 1) := by
        by_cases hh : h + 1 < f + u * s
        · have e2 : Bg f s u + h + 1 = Bg f s u + (h + 1) := by omega
          obtain ⟨aL2, _⟩ := ab_at (l := h + 1) hf hs u0 (by omega) hh
          rw [e2, aL2]
          have : l + 1 ≤ (h + 1) * (f + u * s + s) / (f + u * s) := by
            rw [Int.le_ediv_iff_mul_le (by omega)]
            omega
          omega
        · have e2 : Bg f s u + h + 1 = Bg f s (u + 1) + 0 := by omega
          obtain ⟨aL2, _⟩ := ab_at (t := u + 1) (l := 0) hf hs (by omega) (by omega) (by rw [eZ]; omega)
          have z : (0 : Int) * (f + (u + 1) * s + s) / (f + (u + 1) * s) = 0 := by simp
          rw [e2, aL2, z]
          omega
      apply Classical.byContradiction
      intro ne
      rcases (by omega : b ≤ Bg f s u + h ∨ Bg f s u + h + 1 ≤ b - 1) with q | q
      · have := ab_le hf hs b0 q
        rw [aL] at this
        omega
      · have := ab_le hf hs (show 0 ≤ Bg f s u + h + 1 by omega) q
        have := b3 (by omega)
        omega
    have q : paiI f s n = (n - f) + (bnH f s (n - 1) + 1) - pieI f s n := by unfold paiI; rw [if_neg (by rw [w1]; omega)]
    rw [q, n3, main]
    omega
theorem bare_last {f s n b : Int} (hf : 1 ≤ f) (hs : 0 ≤ s) (h : Bare f s n b) (hb : 0 < b) : ¬ n ≤ abL f s (b - 1) ∧ min (abH f s (b - 1)) (n - 1) = n - 1 := by
  obtain ⟨b0, b1, b2, b3⟩ := h
  have := (ab_next hf hs (show 0 ≤ b - 1 by omega)).2.1
  have e : b - 1 + 1 = b := by omega
  rw [e] at this
  have := b3 hb
  exact ⟨by omega, by omega⟩
def sp__law_bare_from (K : PySem.W.Frag) : Sp := fun vs H Q _ => ∃ (p : Addr) (f s n : Int), vs = [.ref p, .int n] ∧ Drm K H p f s ∧ 1 ≤ n ∧ n < 2 ^ 500 ∧ ∀ b H', Same H H' → Bare f s n b → Q (.int b) H'
theorem y_bare_from {K : PySem.W.Frag} {H : Hp} {Q : VK} {E : XK} {p : Addr} {f s n : Int} (d : Drm K H p f s) (n1 : 1 ≤ n) (n2 : n < 2 ^ 500) (h : ∀ b H', Same H H' → Bare f s n b → Q (.int b) H') : sp__law_bare_from K [.ref p, .int n] H Q E := ⟨p, f, s, n, rfl, d, n1, n2, h⟩
end Wm

/-! Faces, their grounds, their pieces. -/
namespace Wm
open PySem PySem.Spec PyProof.Rows L2
/-- a side's word: inward, or not -/
def sdS (i : Bool) : Str := if i = true then "in" else "out"
section
variable {K : PySem.W.Frag} {H : Hp} {Q : VK} {p q : Addr} {i j : Bool}
theorem sd_eq : decide (V.str (sdS i) = V.str (sdS j)) = (i == j) := by
  cases i <;> cases j <;> decide +kernel
theorem x_rEqIn (h : Q (.bl i) H) : rEq (.str (sdS i)) (.str "in") H Q := ⟨rfl, by
  have e : decide (V.str (sdS i) = V.str "in") = i := by cases i <;> decide +kernel
  rw [e]; exact h⟩
theorem x_inSd (e : H p = some (.tup [.str "in", .str "out"])) (h : Q (.bl true) H) : rIn K false (.str (sdS i)) (.ref p) H Q := ⟨p, _, rfl, .inr (.inl (.inl e)), rfl, rfl, by
  have e2 : inV (.str (sdS i)) [.str "in", .str "out"] = true := by cases i <;> decide +kernel
  rw [e2]; exact h⟩
theorem x_isiS {x : Str} {T : String} {b : Bool} (e : kitB "str" T = some b) (h : Q (.bl b) H) : rIsi K [.str x, .ty T] H Q := ⟨_, _, _, _, b, rfl, .ty T, .base (.str x), kit_ty e, h⟩
theorem x_iteB {A B : Prop} {k : Bool} (h1 : k = true → A) (h2 : k = false → B) : if k = true then A else B := by
  cases k
  · exact h2 rfl
  · exact h1 rfl
end
/-- a face lies at q -/
abbrev Fc (H : Hp) (q : Addr) (c : Int) (i : Bool) : Prop := H q = some (.tup [.int c, .str (sdS i)])
/-- a pair, or none -/
def PairV (H : Hp) (v : V) : Option (Int × Int) → Prop
  | none => v = .non
  | some (a, b) => ∃ r, v = .ref r ∧ H r = some (.tup [.int a, .int b])
theorem PairV.same {H H' : Hp} (s : Same H H') {v : V} : ∀ {o : Option (Int × Int)}, PairV H v o → PairV H' v o
  | none, h => h
  | some (_, _), ⟨r, e, h⟩ => ⟨r, e, s _ _ h⟩
/-- whether a face touches nothing; its ground -/
def gNo (f s n c : Int) (i : Bool) : Prop := if i = true then tOf f s c = 0 else n ≤ abL f s c
instance (f s n c : Int) (i : Bool) : Decidable (gNo f s n c i) := by unfold gNo; exact inferInstance
def gL (f s c : Int) (i : Bool) : Int := if i = true then bnL f s c else c
def gH (f s c : Int) (i : Bool) : Int := if i = true then bnH f s c else c
def rsI (i : Bool) : Int := if i = true then 1 else 0
/-- the piece above a ground's first cell -/
def prt (f s G : Int) : Int := (f + (tOf f s G + 1) * s) / gcdI f s
def pLo (f s G : Int) : Int := Bg f s (tOf f s G) + secN f s G * (siz f s G / gcdI f s)
def pFi (f s G : Int) : Int := Bg f s (tOf f s G + 1) + secN f s G * prt f s G
def pLa (f s n G : Int) : Int := min (pFi f s G + prt f s G) n - 1
def pcL (f s n c : Int) (i : Bool) : Option (Int × Int) := if gNo f s n c i then (if i = true then none else some (c, c)) else some (pLo f s (gL f s c i), bnH f s (pLa f s n (gL f s c i)))
def pcU (f s n c : Int) (i : Bool) : Option (Int × Int) := if gNo f s n c i then (if i = true then some (c, c) else none) else some (pFi f s (gL f s c i), pLa f s n (gL f s c i))
theorem div_mul_le' {a b : Int} (hb : 0 < b) : a / b * b ≤ a := (div_bd a b hb).1
theorem ab_bn {f s c : Int} (hf : 1 ≤ f) (hs : 0 ≤ s) (hc : 0 ≤ c) (ht : ¬ tOf f s c = 0) : 0 ≤ bnL f s c ∧ bnL f s c < c ∧ abL f s (bnL f s c) ≤ c := by
  obtain ⟨t, l, e, t0, l0, l1⟩ := cell_tl hf hs hc
  obtain ⟨e1, e2, e3⟩ := where_at hf hs t0 l0 l1
  rw [← e] at e1
  obtain ⟨u, rfl⟩ : ∃ u, t = u + 1 := ⟨t - 1, by omega⟩
  have u0 : 0 ≤ u := by omega
  have ez : f + (u + 1) * s = f + u * s + s := by grind
  have us := mul_nn u0 hs
  rw [ez] at l1
  have eb : bnL f s c = Bg f s u + l * (f + u * s) / (f + u * s + s) := by
    rw [e]
    unfold bnL metL
    rw [e2, e3, where_at hf hs t0 l0 (by omega) |>.1, ez, show u + 1 - 1 = u by omega]
  have hz : 0 < f + u * s + s := by omega
  have ha : 0 < f + u * s := by omega
  have lm : 0 ≤ l * (f + u * s) := mul_nn l0 (by omega)
  have q0 : 0 ≤ l * (f + u * s) / (f + u * s + s) := Int.ediv_nonneg lm (by omega)
  obtain ⟨d1, d2⟩ := div_bd (l * (f + u * s)) (f + u * s + s) hz
  have q1 : l * (f + u * s) / (f + u * s + s) < f + u * s := by
    apply Int.ediv_lt_of_lt_mul hz
    have := Int.mul_le_mul_of_nonneg_right (show l + 1 ≤ f + u * s + s by omega) (show 0 ≤ f + u * s by omega)
    have e5 : (l + 1) * (f + u * s) = l * (f + u * s) + (f + u * s) := by grind
    have e6 : (f + u * s) * (f + u * s + s) = (f + u * s + s) * (f + u * s) := Int.mul_comm _ _
    omega
  have bb := bg_ge hf hs u0
  have bs := bg_succ f s u
  refine ⟨by omega, by omega, ?_⟩
  rw [eb, (ab_at hf hs u0 q0 q1).1, e]
  have : l * (f + u * s) / (f + u * s + s) * (f + u * s + s) / (f + u * s) ≤ l := by
    have h := Int.ediv_le_ediv ha d1
    rw [Int.mul_ediv_cancel _ (by omega)] at h
    exact h
  omega
theorem piece_facts {f s n G : Int} (hf : 1 ≤ f) (hs : 0 ≤ s) (hG : 0 ≤ G) (hn : abL f s G < n) :
    0 ≤ secN f s G ∧ 1 ≤ siz f s G / gcdI f s ∧ 1 ≤ prt f s G ∧ pFi f s G ≤ abL f s G ∧ pFi f s G ≤ pLa f s n G ∧ pLa f s n G < n ∧ 0 < pFi f s G ∧ tOf f s (pLa f s n G) = tOf f s G + 1 ∧
    pLo f s G ≤ G ∧ G < pLo f s G + siz f s G / gcdI f s ∧ secN f s G + 1 ≤ gcdI f s ∧ gcdI f s * prt f s G = f + (tOf f s G + 1) * s ∧ gcdI f s * (siz f s G / gcdI f s) = siz f s G := by
  obtain ⟨t, l, e, t0, l0, l1⟩ := cell_tl hf hs hG
  obtain ⟨e1, e2, e3⟩ := where_at hf hs t0 l0 l1
  have ea := (ab_at hf hs t0 l0 l1).1
  rw [← e] at e1 e2 e3 ea
  have ts := mul_nn t0 hs
  have gg := gcdI_pos (s := s) hf
  have ez : f + (t + 1) * s = f + t * s + s := by grind
  obtain ⟨w1, w2⟩ := dvd_part gg (show 1 ≤ f + t * s by omega) (gcdI_dz f s t)
  obtain ⟨v1, v2⟩ := dvd_part gg (show 1 ≤ f + (t + 1) * s by omega) (gcdI_dz f s (t + 1))
  unfold pLa pFi pLo secN prt at *
  rw [e1, e2, e3]
  rw [ea] at hn ⊢
  rw [ez] at v1 v2 ⊢
  have bb := bg_ge hf hs t0
  have b1 := bg_succ f s t
  have b2 := bg_succ f s (t + 1)
  rw [ez] at b2
  generalize gcdI f s = g at *
  generalize hA : (f + t * s) / g = A at *
  generalize hB : (f + t * s + s) / g = B at *
  obtain ⟨d1, d2⟩ := div_bd l A (by omega)
  have m0 : 0 ≤ l / A := Int.ediv_nonneg l0 (by omega)
  have m1 : l / A < g := by
    apply Int.ediv_lt_of_lt_mul (by omega)
    omega
  generalize l / A = m at *
  have mB := mul_nn m0 (show 0 ≤ B by omega)
  have h1 : m * B ≤ l * (f + t * s + s) / (f + t * s) := by
    apply Int.le_ediv_of_mul_le (by omega)
    have : m * B * (f + t * s) = m * A * (f + t * s + s) := by
      have h3 : m * B * (g * A) = m * A * (g * B) := by grind
      rw [w2, v2] at h3
      exact h3
    rw [this]
    exact Int.mul_le_mul_of_nonneg_right d1 (by omega)
  have h2 : m * B + B ≤ f + t * s + s := by
    have := Int.mul_le_mul_of_nonneg_right (show m + 1 ≤ g by omega) (show 0 ≤ B by omega)
    have e5 : (m + 1) * B = m * B + B := by grind
    omega
  refine ⟨m0, w1, v1, by omega, by omega, by omega, by omega, ?_, by omega, by omega, by omega, v2, w2⟩
  refine tOf_eq hf hs (by omega) ?_ ?_ ?_ <;> omega
section
variable (K : PySem.W.Frag)
def sp_is_word : Sp := fun vs H Q _ => ∃ (p : Addr) (i : Bool), vs = [.ref p, .str (sdS i)] ∧ H p = some (.tup [.str "in", .str "out"]) ∧ Q (.bl true) H
def sp_is_face : Sp := fun vs H Q _ => ∃ (n : Int) (q : Addr) (c : Int) (i : Bool), vs = [.int n, .ref q] ∧ Fc H q c i ∧ 0 ≤ c ∧ c < n ∧ ∀ H', Same H H' → Q (.bl true) H'
def sp_check_face : Sp := fun vs H Q _ => ∃ (n : Int) (q : Addr) (c : Int) (i : Bool), vs = [.int n, .ref q] ∧ Fc H q c i ∧ 0 ≤ c ∧ c < n ∧ ∀ H', Same H H' → Q .non H'
def sp__rise : Sp := fun vs H Q _ => ∃ (q : Addr) (c : Int) (i : Bool), vs = [.ref q] ∧ Fc H q c i ∧ Q (.int (rsI i)) H
def sp__lone : Sp := fun vs H Q _ => ∃ (q : Addr) (c : Int) (i : Bool), vs = [.ref q] ∧ Fc H q c i ∧ ∀ (r : Addr) (H' : Hp) (v w : V), Same H H' → H' r = some (.tup [v, w]) → PairV H' v (if i = true then none else some (c, c)) → PairV H' w (if i = true then some (c, c) else none) → Q (.ref r) H'
def sp__ground : Sp := fun vs H Q _ => ∃ (p : Addr) (f s n : Int) (q : Addr) (c : Int) (i : Bool), vs = [.ref p, .int n, .ref q] ∧ Drm K H p f s ∧ Fc H q c i ∧ 0 ≤ c ∧ c < n ∧ n < 2 ^ 700 ∧
  (gNo f s n c i → ∀ H', Same H H' → Q .non H') ∧ (¬ gNo f s n c i → ∀ (r : Addr) (H' : Hp), Same H H' → H' r = some (.tup [.int (gL f s c i), .int (gH f s c i)]) → Q (.ref r) H')
def sp_piece : Sp := fun vs H Q _ => ∃ (p : Addr) (f s n : Int) (q : Addr) (c : Int) (i : Bool), vs = [.ref p, .int n, .ref q] ∧ Drm K H p f s ∧ Fc H q c i ∧ 0 ≤ c ∧ c < n ∧ n < 2 ^ 600 ∧
  ∀ (r : Addr) (H' : Hp) (v w : V), Same H H' → H' r = some (.tup [v, w]) → PairV H' v (pcL f s n c i) → PairV H' w (pcU f s n c i) → Q (.ref r) H'
end
section
variable {K : PySem.W.Frag} {H : Hp} {Q : VK} {E : XK} {p q : Addr} {f s n c : Int} {i : Bool}
theorem y_is_word (e : H p = some (.tup [.str "in", .str "out"])) (h : Q (.bl true) H) : sp_is_word [.ref p, .str (sdS i)] H Q E := ⟨p, i, rfl, e, h⟩
theorem y_is_face (e : Fc H q c i) (h0 : 0 ≤ c) (h1 : c < n) (h : ∀ H', Same H H' → Q (.bl true) H') : sp_is_face [.int n, .ref q] H Q E := ⟨n, q, c, i, rfl, e, h0, h1, h⟩
theorem y_check_face (e : Fc H q c i) (h0 : 0 ≤ c) (h1 : c < n) (h : ∀ H', Same H H' → Q .non H') : sp_check_face [.int n, .ref q] H Q E := ⟨n, q, c, i, rfl, e, h0, h1, h⟩
theorem y_rise (e : Fc H q c i) (h : Q (.int (rsI i)) H) : sp__rise [.ref q] H Q E := ⟨q, c, i, rfl, e, h⟩
theorem y_lone (e : Fc H q c i) (h : ∀ (r : Addr) (H' : Hp) (v w : V), Same H H' → H' r = some (.tup [v, w]) → PairV H' v (if i = true then none else some (c, c)) → PairV H' w (if i = true then some (c, c) else none) → Q (.ref r) H') : sp__lone [.ref q] H Q E := ⟨q, c, i, rfl, e, h⟩
theorem y_ground (d : Drm K H p f s) (e : Fc H q c i) (h0 : 0 ≤ c) (h1 : c < n) (h2 : n < 2 ^ 700) (h : gNo f s n c i → ∀ H', Same H H' → Q .non H') (h' : ¬ gNo f s n c i → ∀ (r : Addr) (H' : Hp), Same H H' → H' r = some (.tup [.int (gL f s c i), .int (gH f s c i)]) → Q (.ref r) H') : sp__ground K [.ref p, .int n, .ref q] H Q E := ⟨p, f, s, n, q, c, i, rfl, d, e, h0, h1, h2, h, h'⟩
theorem y_piece (d : Drm K H p f s) (e : Fc H q c i) (h0 : 0 ≤ c) (h1 : c < n) (h2 : n < 2 ^ 600) (h : ∀ (r : Addr) (H' : Hp) (v w : V), Same H H' → H' r = some (.tup [v, w]) → PairV H' v (pcL f s n c i) → PairV H' w (pcU f s n c i) → Q (.ref r) H') : sp_piece K [.ref p, .int n, .ref q] H Q E := ⟨p, f, s, n, q, c, i, rfl, d, e, h0, h1, h2, h⟩
end
end Wm

/-! How far apart, and reach. -/
namespace Wm
open PySem PySem.Spec PyProof.Rows L2
section
variable {X : Cx} {K : PySem.W.Frag} {H : Hp} {Q : VK} {p q : Addr} {i j : Bool}
theorem cl_max3 (hc : X.calm = true) : CallR X (.builtin "max") (rNuC3 nuMax3) := call_max3Nu hc
theorem x_max3 {a b c : Int} (h : Q (.int (max (max a b) c)) H) : rNuC3 nuMax3 [.int a, .int b, .int c] H Q := ⟨_, _, _, .int (max (max a b) c), rfl, by
  have e2 : ∀ x y : Int, nuMax2 (.int x) (.int y) = some (.int (max x y)) := by
    intro x y
    simp only [nuMax2, nuLt, nuCB, Option.map_some, decide_eq_true_eq]
    by_cases g : x < y
    · rw [if_pos g, show max x y = y by omega]
    · rw [if_neg g, show max x y = x by omega]
  unfold nuMax3
  rw [e2, Option.bind_some, e2], h⟩
/-- what a pair is, or none -/
def pdO : Option (Int × Int) → PyData
  | none => .none
  | some (a, b) => .tuple ([a, b].map PyData.int)
theorem PairV.dp {v : V} : ∀ {o : Option (Int × Int)}, PairV H v o → Dp K H v (pdO o)
  | none, h => by cases (show v = .non from h); exact .non
  | some (a, b), ⟨r, e, h⟩ => by subst e; exact .tup (.inl (.inl h)) (dpAll_ints [a, b])
theorem eqv_pd : ∀ o u : Option (Int × Int), PyData.eqv (pdO o) (pdO u) = decide (o = u)
  | none, none => by simp [pdO, PyData.eqv]
  | none, some (_, _) => by simp [pdO, PyData.eqv]
  | some (_, _), none => by simp [pdO, PyData.eqv]
  | some (a, b), some (c, d) => by
    unfold pdO
    rw [PyData.eqv, eqvAll_ints]
    simp
theorem lay_pd : ∀ o : Option (Int × Int), PyData.canLay0 (pdO o) = true
  | none => by simp [pdO, PyData.canLay0]
  | some (a, b) => by unfold pdO; unfold PyData.canLay0; simp [PyData.canLayAll0, PyData.canLay0]
theorem depth_pd : ∀ o : Option (Int × Int), PyData.depth (pdO o) ≤ 1
  | none => by simp [pdO, PyData.depth]
  | some (a, b) => by unfold pdO PyData.depth; simp [PyData.depthAll, PyData.depth]
theorem shaped_pp (o u : Option (Int × Int)) : SeqAt.shaped (.tuple [pdO o, pdO u]) = true := by
  unfold SeqAt.shaped
  have h1 : PyData.canLay0 (.tuple [pdO o, pdO u]) = true := by
    unfold PyData.canLay0
    simp [PyData.canLayAll0, lay_pd]
  have h2 : PyData.depth (.tuple [pdO o, pdO u]) ≤ 2 := by
    have a := depth_pd o
    have b := depth_pd u
    unfold PyData.depth
    simp [PyData.depthAll]
    omega
  rw [h1]
  simp only [Bool.true_and, decide_eq_true_eq]
  exact Nat.le_trans h2 (by decide)
theorem x_nePP {v w v' w' : V} {o u o' u' : Option (Int × Int)} (hp : H p = some (.tup [v, w])) (hq : H q = some (.tup [v', w'])) (a : PairV H v o) (b : PairV H w u) (a' : PairV H v' o') (b' : PairV H w' u')
    (h : Q (.bl (!decide (o = o' ∧ u = u'))) H) : rNeD K (.ref p) (.ref q) H Q :=
  ⟨_, _, .tup (.inl (.inl hp)) (.cons a.dp (.cons b.dp .nil)), .tup (.inl (.inl hq)) (.cons a'.dp (.cons b'.dp .nil)), shaped_pp o u, shaped_pp o' u', by
    have e : PyData.eqv (.tuple [pdO o, pdO u]) (.tuple [pdO o', pdO u']) = decide (o = o' ∧ u = u') := by
      rw [PyData.eqv]
      simp only [PyData.eqvAll, eqv_pd]
      by_cases c : o = o' <;> by_cases d : u = u' <;> simp [c, d]
    rw [e]; exact h⟩
theorem shaped_fc (c : Int) (i : Bool) : SeqAt.shaped (.tuple [.int c, .str (sdS i)]) = true := by
  have h0 : PyData.strOk (sdS i) = true := by cases i <;> decide +kernel
  generalize sdS i = x at *
  unfold SeqAt.shaped
  have h1 : PyData.canLay0 (.tuple [.int c, .str x]) = true := by
    unfold PyData.canLay0
    simp [PyData.canLayAll0, PyData.canLay0, h0]
  have h2 : PyData.depth (.tuple [.int c, .str x]) = 1 := by
    unfold PyData.depth
    simp [PyData.depthAll, PyData.depth]
  rw [h1, h2]
  decide
theorem x_eqF {c d : Int} (hp : Fc H p c i) (hq : Fc H q d j) (h : Q (.bl (decide (c = d ∧ i = j))) H) : rEqD K (.ref p) (.ref q) H Q :=
  ⟨_, _, .tup (.inl (.inl hp)) (.cons (.int c) (.cons (.str _) .nil)), .tup (.inl (.inl hq)) (.cons (.int d) (.cons (.str _) .nil)), shaped_fc _ _, shaped_fc _ _, by
    have e : PyData.eqv (.tuple [.int c, .str (sdS i)]) (.tuple [.int d, .str (sdS j)]) = decide (c = d ∧ i = j) := by
      rw [PyData.eqv]
      simp only [PyData.eqvAll, PyData.eqv]
      have e2 : (sdS i == sdS j) = (i == j) := by cases i <;> cases j <;> decide +kernel
      rw [e2]
      cases i <;> cases j <;> simp <;> (rw [Bool.eq_iff_iff]; simp)
    rw [e]; exact h⟩
end
/-- whether two faces hang together -/
def hang (f s n c : Int) (i : Bool) (d : Int) (j : Bool) : Prop := pcL f s n c i = pcL f s n d j ∧ pcU f s n c i = pcU f s n d j
instance (f s n c : Int) (i : Bool) (d : Int) (j : Bool) : Decidable (hang f s n c i d j) := by unfold hang; exact inferInstance
def apI (f s c : Int) (i : Bool) (d : Int) (j : Bool) : Int := if c = d ∧ i = j then 0 else rsI i + 2 * max (max 0 (gL f s d j - gH f s c i)) (gL f s c i - gH f s d j) + rsI j
theorem hang_no {f s n c : Int} {i : Bool} {d : Int} {j : Bool} (h : hang f s n c i d j) (ne : ¬ (c = d ∧ i = j)) : ¬ gNo f s n c i ∧ ¬ gNo f s n d j := by
  obtain ⟨h1, h2⟩ := h
  unfold pcL at h1
  unfold pcU at h2
  by_cases a : gNo f s n c i <;> by_cases b : gNo f s n d j
  · rw [if_pos a, if_pos b] at h1 h2
    cases i <;> cases j <;> simp at h1 h2 ne <;> exact absurd (by first | exact h1 | exact h2) ne
  · rw [if_pos a, if_neg b] at h1 h2
    cases i <;> simp at h1 h2
  · rw [if_neg a, if_pos b] at h1 h2
    cases j <;> simp at h1 h2
  · exact ⟨a, b⟩
theorem gL_nn {f s n c : Int} {i : Bool} (hf : 1 ≤ f) (hs : 0 ≤ s) (hc : 0 ≤ c) (h1 : c < n) (h : ¬ gNo f s n c i) : 0 ≤ gL f s c i ∧ gL f s c i ≤ c ∧ abL f s (gL f s c i) < n := by
  cases i
  · exact ⟨hc, Int.le_refl _, by unfold gNo at h; simp at h; exact h⟩
  · unfold gNo at h
    simp at h
    obtain ⟨a1, a2, a3⟩ := ab_bn hf hs hc h
    exact ⟨a1, Int.le_of_lt a2, by show abL f s (bnL f s c) < n; omega⟩
section
variable (K : PySem.W.Frag)
def sp_apart : Sp := fun vs H Q _ => ∃ (p : Addr) (f s n : Int) (q : Addr) (c : Int) (i : Bool) (r : Addr) (d : Int) (j : Bool), vs = [.ref p, .int n, .ref q, .ref r] ∧ Drm K H p f s ∧ Fc H q c i ∧ Fc H r d j ∧ 0 ≤ c ∧ c < n ∧ 0 ≤ d ∧ d < n ∧ n < 2 ^ 600 ∧
  (¬ hang f s n c i d j → ∀ H', Same H H' → Q .non H') ∧ (hang f s n c i d j → ∀ H', Same H H' → Q (.int (apI f s c i d j)) H')
/-- within so many touches of a ground -/
def wdL (lo g t : Int) : Int := max lo (g - t / 2)
def wdH (hi g t : Int) : Int := min hi (g + t / 2)
def sp__widened : Sp := fun vs H Q _ => ∃ (q : Addr) (lo hi : Int) (r : Addr) (a b t : Int), vs = [.ref q, .ref r, .int t] ∧ H q = some (.tup [.int lo, .int hi]) ∧ H r = some (.tup [.int a, .int b]) ∧
  (t < 0 → Q .non H) ∧ (¬ t < 0 → ∀ (u : Addr) (H' : Hp), Same H H' → H' u = some (.tup [.int (wdL lo a t), .int (wdH hi b t)]) → Q (.ref u) H')
end
section
variable {K : PySem.W.Frag} {H : Hp} {Q : VK} {E : XK} {p q r : Addr} {f s n c d lo hi a b t : Int} {i j : Bool}
theorem y_apart (D : Drm K H p f s) (e : Fc H q c i) (e' : Fc H r d j) (h0 : 0 ≤ c) (h1 : c < n) (h2 : 0 ≤ d) (h3 : d < n) (h4 : n < 2 ^ 600) (h : ¬ hang f s n c i d j → ∀ H', Same H H' → Q .non H') (h' : hang f s n c i d j → ∀ H', Same H H' → Q (.int (apI f s c i d j)) H') : sp_apart K [.ref p, .int n, .ref q, .ref r] H Q E := ⟨p, f, s, n, q, c, i, r, d, j, rfl, D, e, e', h0, h1, h2, h3, h4, h, h'⟩
theorem y_widened (e : H q = some (.tup [.int lo, .int hi])) (e' : H r = some (.tup [.int a, .int b])) (h : t < 0 → Q .non H) (h' : ¬ t < 0 → ∀ (u : Addr) (H' : Hp), Same H H' → H' u = some (.tup [.int (wdL lo a t), .int (wdH hi b t)]) → Q (.ref u) H') : sp__widened [.ref q, .ref r, .int t] H Q E := ⟨q, lo, hi, r, a, b, t, rfl, e, e', h, h'⟩
end
end Wm

-- f179fe043c2eb56f707d9863f427cb3231e08aec81c5a06a76f993478000e191
/-! What has ink behind so many beats. -/
namespace Wm
open PySem PySem.Spec PyProof.Rows L2
theorem ab_bnH {f s c : Int} (hf : 1 ≤ f) (hs : 0 ≤ s) (hc : 0 ≤ c) (ht : ¬ tOf f s c = 0) : bnL f s c ≤ bnH f s c ∧ bnH f s c < c ∧ abL f s (bnH f s c) ≤ c := by
  obtain ⟨t, l, e, t0, l0, l1⟩ := cell_tl hf hs hc
  obtain ⟨e1, e2, e3⟩ := where_at hf hs t0 l0 l1
  rw [← e] at e1
  obtain ⟨u, rfl⟩ : ∃ u, t = u + 1 := ⟨t - 1, by omega⟩
  have u0 : 0 ≤ u := by omega
  have ez : f + (u + 1) * s = f + u * s + s := by grind
  have us := mul_nn u0 hs
  rw [ez] at l1
  obtain ⟨_, n2, n3⟩ := bn_at hf hs u0 l0 l1
  rw [← e] at n2 n3
  have hz : 0 < f + u * s + s := by omega
  have ha : 0 < f + u * s := by omega
  have lm : 0 ≤ l * (f + u * s) := mul_nn l0 (by omega)
  have e5 : (l + 1) * (f + u * s) = l * (f + u * s) + (f + u * s) := by grind
  have q0 : 0 ≤ l * (f + u * s) / (f + u * s + s) := Int.ediv_nonneg lm (by omega)
  have q2 : l * (f + u * s) / (f + u * s + s) ≤ ((l + 1) * (f + u * s) - 1) / (f + u * s + s) := Int.ediv_le_ediv hz (by omega)
  obtain ⟨d1, d2⟩ := div_bd ((l + 1) * (f + u * s) - 1) (f + u * s + s) hz
  have q1 : ((l + 1) * (f + u * s) - 1) / (f + u * s + s) < f + u * s := by
    apply Int.ediv_lt_of_lt_mul hz
    have := Int.mul_le_mul_of_nonneg_right (show l + 1 ≤ f + u * s + s by omega) (show 0 ≤ f + u * s by omega)
    have e6 : (f + u * s) * (f + u * s + s) = (f + u * s + s) * (f + u * s) := Int.mul_comm _ _
    omega
  have bb := bg_ge hf hs u0
  have bs := bg_succ f s u
  refine ⟨by omega, by omega, ?_⟩
  rw [n3, (ab_at hf hs u0 (by omega) q1).1]
  have : ((l + 1) * (f + u * s) - 1) / (f + u * s + s) * (f + u * s + s) / (f + u * s) ≤ l := by
    have h := Int.ediv_le_ediv ha d1
    have h2 : ((l + 1) * (f + u * s) - 1) / (f + u * s) ≤ l := by
      have : ((l + 1) * (f + u * s) - 1) / (f + u * s) < l + 1 := by
        apply Int.ediv_lt_of_lt_mul ha
        omega
      omega
    omega
  omega
/-- what has ink -/
def reL (f s n c : Int) (i : Bool) (b : Int) : Option (Int × Int) := if gNo f s n c i then pcL f s n c i else if b - rsI i < 0 then none else
  some (wdL (pLo f s (gL f s c i)) (gL f s c i) (b - rsI i), wdH (bnH f s (pLa f s n (gL f s c i))) (gH f s c i) (b - rsI i))
def reU (f s n c : Int) (i : Bool) (b : Int) : Option (Int × Int) := if gNo f s n c i then pcU f s n c i else if b - rsI i - 1 < 0 then (if i = true then some (c, c) else none) else
  some (abL f s (wdL (pLo f s (gL f s c i)) (gL f s c i) (b - rsI i - 1)), min (abH f s (wdH (bnH f s (pLa f s n (gL f s c i))) (gH f s c i) (b - rsI i - 1))) (n - 1))
section
variable (K : PySem.W.Frag)
def sp_reach : Sp := fun vs H Q _ => ∃ (p : Addr) (f s n : Int) (q : Addr) (c : Int) (i : Bool) (b : Int), vs = [.ref p, .int n, .ref q, .int b] ∧ Drm K H p f s ∧ Fc H q c i ∧ 0 ≤ c ∧ c < n ∧ n < 2 ^ 600 ∧ 0 ≤ b ∧
  ∀ (r : Addr) (H' : Hp) (v w : V), Same H H' → H' r = some (.tup [v, w]) → PairV H' v (reL f s n c i b) → PairV H' w (reU f s n c i b) → Q (.ref r) H'
end
theorem y_reach {K : PySem.W.Frag} {H : Hp} {Q : VK} {E : XK} {p q : Addr} {f s n c b : Int} {i : Bool} (d : Drm K H p f s) (e : Fc H q c i) (h0 : 0 ≤ c) (h1 : c < n) (h2 : n < 2 ^ 600) (b0 : 0 ≤ b) (h : ∀ (r : Addr) (H' : Hp) (v w : V), Same H H' → H' r = some (.tup [v, w]) → PairV H' v (reL f s n c i b) → PairV H' w (reU f s n c i b) → Q (.ref r) H') : sp_reach K [.ref p, .int n, .ref q, .int b] H Q E := ⟨p, f, s, n, q, c, i, b, rfl, d, e, h0, h1, h2, b0, h⟩
/-- what is needed of a piece's ends -/
theorem piece_ends {f s n c : Int} {i : Bool} (hf : 1 ≤ f) (hs : 0 ≤ s) (hc : 0 ≤ c) (h1 : c < n) (z : ¬ gNo f s n c i) :
    0 ≤ pLo f s (gL f s c i) ∧ pLo f s (gL f s c i) ≤ gL f s c i ∧ gL f s c i ≤ gH f s c i ∧ gH f s c i ≤ c ∧ gL f s c i ≤ c ∧ abL f s (gL f s c i) < n ∧
    0 ≤ bnH f s (pLa f s n (gL f s c i)) ∧ bnH f s (pLa f s n (gL f s c i)) < n ∧ abL f s (bnH f s (pLa f s n (gL f s c i))) < n := by
  obtain ⟨g0, g1, g2⟩ := gL_nn hf hs hc h1 z
  have gh : gL f s c i ≤ gH f s c i ∧ gH f s c i ≤ c := by
    cases i
    · exact ⟨Int.le_refl _, Int.le_refl _⟩
    · unfold gNo at z
      simp at z
      obtain ⟨a1, a2, a3⟩ := ab_bnH hf hs hc z
      exact ⟨a1, Int.le_of_lt a2⟩
  obtain ⟨m0, w1, v1, b0, b1, b2, b3, b4, b5, b6, b7, b8, b9⟩ := piece_facts hf hs g0 g2
  have t0 := tOf_nn hf hs g0
  have nz : ¬ tOf f s (pLa f s n (gL f s c i)) = 0 := by omega
  obtain ⟨x1, x2, x3⟩ := ab_bnH hf hs (show 0 ≤ pLa f s n (gL f s c i) by omega) nz
  obtain ⟨y1, _, _⟩ := ab_bn hf hs (show 0 ≤ pLa f s n (gL f s c i) by omega) nz
  refine ⟨?_, b5, gh.1, gh.2, g1, g2, by omega, by omega, by omega⟩
  unfold pLo
  have := bg_ge hf hs t0
  have := mul_nn m0 (show 0 ≤ siz f s (gL f s c i) / gcdI f s by omega)
  omega
end Wm

/-! The way from a face to another one. -/
namespace Wm
open PySem PySem.Spec PyProof.Rows L2
/-- from the ground a..b to the ground u..v -/
def amS (a b u : Int) : Int := min (max a u) b
def amW (a b u : Int) : Int := if amS a b u ≤ u then 1 else -1
def amL (a b u T : Int) : Int := amS a b u + amW a b u * (T / 2)
theorem am_safe {a b u v T r2 : Int} (h1 : a ≤ b) (h2 : u ≤ v) (a0 : 0 ≤ a) (u0 : 0 ≤ u) (T0 : 0 ≤ T) (r0 : 0 ≤ r2) (r1 : r2 ≤ 1) (h : T < 2 * max (max 0 (u - b)) (a - v) + r2) :
    0 ≤ amL a b u T ∧ amL a b u T ≤ max b u ∧ (¬ T % 2 = 0 → 0 ≤ min (amL a b u T) (amL a b u T + amW a b u) ∧ min (amL a b u T) (amL a b u T + amW a b u) ≤ max a u) := by
  unfold amL amW
  have e : ∀ x : Int, (if amS a b u ≤ u then (1 : Int) else -1) * x = if amS a b u ≤ u then x else -x := by
    intro x; split <;> omega
  rw [e]
  by_cases c : amS a b u ≤ u
  · simp only [if_pos c]
    unfold amS at *
    omega
  · simp only [if_neg c]
    unfold amS at *
    omega
section
variable (K : PySem.W.Frag)
/-- the face told -/
def owC (f s n c : Int) (i : Bool) (d : Int) (j : Bool) (m : Int) : Int := if m = 0 then c else if m = apI f s c i d j then d else
  if (m - rsI i) % 2 = 0 then amL (gL f s c i) (gH f s c i) (gL f s d j) (m - rsI i) else
  min (abH f s (min (amL (gL f s c i) (gH f s c i) (gL f s d j) (m - rsI i)) (amL (gL f s c i) (gH f s c i) (gL f s d j) (m - rsI i) + amW (gL f s c i) (gH f s c i) (gL f s d j)))) (n - 1)
def owI (f s c : Int) (i : Bool) (d : Int) (j : Bool) (m : Int) : Bool := if m = 0 then i else if m = apI f s c i d j then j else !decide ((m - rsI i) % 2 = 0)
def sp__amidst : Sp := fun vs H Q _ => ∃ (p : Addr) (f s n : Int) (q : Addr) (c : Int) (i : Bool) (r : Addr) (d : Int) (j : Bool) (m : Int), vs = [.ref p, .int n, .ref q, .ref r, .int m] ∧ Drm K H p f s ∧ Fc H q c i ∧ Fc H r d j ∧ 0 ≤ c ∧ c < n ∧ 0 ≤ d ∧ d < n ∧ n < 2 ^ 600 ∧
  ¬ gNo f s n c i ∧ ¬ gNo f s n d j ∧ ¬ (c = d ∧ i = j) ∧ 0 < m ∧ m < apI f s c i d j ∧ ∀ (u : Addr) (H' : Hp), Same H H' → Fc H' u (owC f s n c i d j m) (owI f s c i d j m) → Q (.ref u) H'
def sp_on_way : Sp := fun vs H Q _ => ∃ (p : Addr) (f s n : Int) (q : Addr) (c : Int) (i : Bool) (r : Addr) (d : Int) (j : Bool) (m : Int), vs = [.ref p, .int n, .ref q, .ref r, .int m] ∧ Drm K H p f s ∧ Fc H q c i ∧ Fc H r d j ∧ 0 ≤ c ∧ c < n ∧ 0 ≤ d ∧ d < n ∧ n < 2 ^ 600 ∧
  (¬ hang f s n c i d j → ∀ H', Same H H' → Q .non H') ∧ (hang f s n c i d j → 0 ≤ m ∧ m ≤ apI f s c i d j ∧ ∀ (u : Addr) (H' : Hp), Same H H' → Fc H' u (owC f s n c i d j m) (owI f s c i d j m) → Q (.ref u) H')
end
section
variable {K : PySem.W.Frag} {H : Hp} {Q : VK} {E : XK} {p q r : Addr} {f s n c d m : Int} {i j : Bool}
theorem y_amidst (D : Drm K H p f s) (e : Fc H q c i) (e' : Fc H r d j) (h0 : 0 ≤ c) (h1 : c < n) (h2 : 0 ≤ d) (h3 : d < n) (h4 : n < 2 ^ 600) (g1 : ¬ gNo f s n c i) (g2 : ¬ gNo f s n d j) (ne : ¬ (c = d ∧ i = j)) (m0 : 0 < m) (m1 : m < apI f s c i d j)
    (h : ∀ (u : Addr) (H' : Hp), Same H H' → Fc H' u (owC f s n c i d j m) (owI f s c i d j m) → Q (.ref u) H') : sp__amidst K [.ref p, .int n, .ref q, .ref r, .int m] H Q E := ⟨p, f, s, n, q, c, i, r, d, j, m, rfl, D, e, e', h0, h1, h2, h3, h4, g1, g2, ne, m0, m1, h⟩
theorem y_on_way (D : Drm K H p f s) (e : Fc H q c i) (e' : Fc H r d j) (h0 : 0 ≤ c) (h1 : c < n) (h2 : 0 ≤ d) (h3 : d < n) (h4 : n < 2 ^ 600) (k1 : ¬ hang f s n c i d j → ∀ H', Same H H' → Q .non H')
    (k2 : hang f s n c i d j → 0 ≤ m ∧ m ≤ apI f s c i d j ∧ ∀ (u : Addr) (H' : Hp), Same H H' → Fc H' u (owC f s n c i d j m) (owI f s c i d j m) → Q (.ref u) H') : sp_on_way K [.ref p, .int n, .ref q, .ref r, .int m] H Q E := ⟨p, f, s, n, q, c, i, r, d, j, m, rfl, D, e, e', h0, h1, h2, h3, h4, k1, k2⟩
def rTp (K : PySem.W.Frag) : List V → Hp → VK → Prop := fun xs H Q => ∃ p ys, xs = [.ref p] ∧ ((SqL K H p ys ∧ ∀ l, H l = none → Q (.ref l) (upd H l (.tup ys))) ∨ (SqT K H p ys ∧ Q (.ref p) H))
theorem cl_tuple {X : Cx} : CallR X (.type "tuple") (rTp X.K) := call_tuple_of
theorem x_tupT {xs : List V} (e : H p = some (.tup xs)) (h : Q (.ref p) H) : rTp K [.ref p] H Q := ⟨p, xs, rfl, .inr ⟨.inl (.inl e), h⟩⟩
end
end Wm

/-! The face on the ways between each two of three. -/
namespace Wm
open PySem PySem.Spec PyProof.Rows L2
theorem bn_wide {f s c : Int} (hf : 1 ≤ f) (hs : 0 ≤ s) (hc : 0 ≤ c) (ht : ¬ tOf f s c = 0) : bnH f s c ≤ bnL f s c + 1 := by
  obtain ⟨t, l, e, t0, l0, l1⟩ := cell_tl hf hs hc
  obtain ⟨e1, e2, e3⟩ := where_at hf hs t0 l0 l1
  rw [← e] at e1
  obtain ⟨u, rfl⟩ : ∃ u, t = u + 1 := ⟨t - 1, by omega⟩
  have u0 : 0 ≤ u := by omega
  have ez : f + (u + 1) * s = f + u * s + s := by grind
  have us := mul_nn u0 hs
  rw [ez] at l1
  obtain ⟨_, n2, n3⟩ := bn_at hf hs u0 l0 l1
  rw [← e] at n2 n3
  have hz : 0 < f + u * s + s := by omega
  have e5 : (l + 1) * (f + u * s) = l * (f + u * s) + (f + u * s) := by grind
  rw [n2, n3]
  have h : ((l + 1) * (f + u * s) - 1) / (f + u * s + s) ≤ (l * (f + u * s) + (f + u * s + s)) / (f + u * s + s) := Int.ediv_le_ediv hz (by omega)
  rw [Int.add_ediv_of_dvd_right (Int.dvd_refl _), Int.ediv_self (by omega)] at h
  omega
theorem g_wide {f s n c : Int} {i : Bool} (hf : 1 ≤ f) (hs : 0 ≤ s) (hc : 0 ≤ c) (h1 : c < n) (z : ¬ gNo f s n c i) : gL f s c i ≤ gH f s c i ∧ gH f s c i ≤ gL f s c i + rsI i := by
  refine ⟨(piece_ends hf hs hc h1 z).2.2.1, ?_⟩
  cases i
  · exact Int.le_of_eq (Int.add_zero _).symm
  · unfold gNo at z
    simp at z
    exact bn_wide hf hs hc z
theorem tri {p12 p13 p23 : Prop} [Decidable p12] [Decidable p13] [Decidable p23] {a1 b1 r1 a2 b2 r2 a3 b3 r3 : Int} (w1 : a1 ≤ b1 ∧ b1 ≤ a1 + r1) (w2 : a2 ≤ b2 ∧ b2 ≤ a2 + r2) (w3 : a3 ≤ b3 ∧ b3 ≤ a3 + r3)
    (t1 : p12 → p13 → p23) (t2 : p12 → p23 → p13) (t3 : p13 → p23 → p12) (e12 : p12 → a1 = a2 ∧ b1 = b2 ∧ r1 = r2) (e13 : p13 → a1 = a3 ∧ b1 = b3 ∧ r1 = r3) (e23 : p23 → a2 = a3 ∧ b2 = b3 ∧ r2 = r3) :
    (if p13 then 0 else r1 + 2 * max (max 0 (a3 - b1)) (a1 - b3) + r3) ≤ (if p12 then 0 else r1 + 2 * max (max 0 (a2 - b1)) (a1 - b2) + r2) + (if p23 then 0 else r2 + 2 * max (max 0 (a3 - b2)) (a2 - b3) + r3) ∧
    (if p23 then 0 else r2 + 2 * max (max 0 (a3 - b2)) (a2 - b3) + r3) ≤ (if p12 then 0 else r1 + 2 * max (max 0 (a2 - b1)) (a1 - b2) + r2) + (if p13 then 0 else r1 + 2 * max (max 0 (a3 - b1)) (a1 - b3) + r3) := by
  by_cases h12 : p12 <;> by_cases h13 : p13 <;> by_cases h23 : p23
  · rw [if_pos h12, if_pos h13, if_pos h23]; omega
  · exact absurd (t1 h12 h13) h23
  · exact absurd (t2 h12 h23) h13
  · rw [if_pos h12, if_neg h13, if_neg h23]; have := e12 h12; omega
  · exact absurd (t3 h13 h23) h12
  · rw [if_neg h12, if_pos h13, if_neg h23]; have := e13 h13; omega
  · rw [if_neg h12, if_neg h13, if_pos h23]; have := e23 h23; omega
  · rw [if_neg h12, if_neg h13, if_neg h23]; omega
theorem rsI_nn (i : Bool) : 0 ≤ rsI i ∧ rsI i ≤ 1 := by cases i <;> decide
theorem ap_nn {f s c d : Int} {i j : Bool} : 0 ≤ apI f s c i d j := by
  have a := rsI_nn i
  have b := rsI_nn j
  unfold apI
  split <;> omega
/-- three faces of one piece -/
theorem ap_tri {f s n c d g : Int} {i j k : Bool} (hf : 1 ≤ f) (hs : 0 ≤ s) (c0 : 0 ≤ c) (c1 : c < n) (d0 : 0 ≤ d) (d1 : d < n) (g0 : 0 ≤ g) (g1 : g < n) (h : hang f s n c i d j) (h' : hang f s n c i g k) :
    apI f s c i g k ≤ apI f s c i d j + apI f s d j g k ∧ apI f s d j g k ≤ apI f s c i d j + apI f s c i g k := by
  have h2 : hang f s n d j g k := ⟨h.1.symm.trans h'.1, h.2.symm.trans h'.2⟩
  by_cases x : (c = d ∧ i = j) ∧ (c = g ∧ i = k)
  · obtain ⟨⟨rfl, rfl⟩, rfl, rfl⟩ := x
    have e : apI f s c i c i = 0 := by unfold apI; simp
    rw [e]; omega
  · have W : (¬ gNo f s n c i) ∧ (¬ gNo f s n d j) ∧ (¬ gNo f s n g k) := by
      by_cases y : c = d ∧ i = j
      · have y2 : ¬ (c = g ∧ i = k) := fun z => x ⟨y, z⟩
        obtain ⟨u1, u2⟩ := hang_no h' y2
        refine ⟨u1, ?_, u2⟩
        obtain ⟨rfl, rfl⟩ := y
        exact u1
      · obtain ⟨u1, u2⟩ := hang_no h y
        refine ⟨u1, u2, ?_⟩
        by_cases z : c = g ∧ i = k
        · obtain ⟨rfl, rfl⟩ := z; exact u1
        · exact (hang_no h' z).2
    obtain ⟨W1, W2, W3⟩ := W
    have V1 := g_wide hf hs c0 c1 W1
    have V2 := g_wide hf hs d0 d1 W2
    have V3 := g_wide hf hs g0 g1 W3
    unfold apI
    exact tri V1 V2 V3 (fun a b => ⟨a.1.symm.trans b.1, a.2.symm.trans b.2⟩) (fun a b => ⟨a.1.trans b.1, a.2.trans b.2⟩) (fun a b => ⟨a.1.trans b.1.symm, a.2.trans b.2.symm⟩)
      (fun a => by obtain ⟨rfl, rfl⟩ := a; exact ⟨rfl, rfl, rfl⟩) (fun a => by obtain ⟨rfl, rfl⟩ := a; exact ⟨rfl, rfl, rfl⟩) (fun a => by obtain ⟨rfl, rfl⟩ := a; exact ⟨rfl, rfl, rfl⟩)
/-- how far the face amid is from the first -/
def adI (f s c : Int) (i : Bool) (d : Int) (j : Bool) (g : Int) (k : Bool) : Int := (apI f s c i d j + apI f s c i g k - apI f s d j g k) / 2
section
variable (K : PySem.W.Frag)
def sp_amid : Sp := fun vs H Q _ => ∃ (p : Addr) (f s n : Int) (q : Addr) (c : Int) (i : Bool) (r : Addr) (d : Int) (j : Bool) (t : Addr) (g : Int) (k : Bool), vs = [.ref p, .int n, .ref q, .ref r, .ref t] ∧ Drm K H p f s ∧ Fc H q c i ∧ Fc H r d j ∧ Fc H t g k ∧ 0 ≤ c ∧ c < n ∧ 0 ≤ d ∧ d < n ∧ 0 ≤ g ∧ g < n ∧ n < 2 ^ 600 ∧
  (¬ (hang f s n c i d j ∧ hang f s n c i g k) → ∀ H', Same H H' → Q .non H') ∧ (hang f s n c i d j → hang f s n c i g k → ∀ (u : Addr) (H' : Hp), Same H H' → Fc H' u (owC f s n c i d j (adI f s c i d j g k)) (owI f s c i d j (adI f s c i d j g k)) → Q (.ref u) H')
end
theorem y_amid {K : PySem.W.Frag} {H : Hp} {Q : VK} {E : XK} {p q r t : Addr} {f s n c d g : Int} {i j k : Bool} (D : Drm K H p f s) (e1 : Fc H q c i) (e2 : Fc H r d j) (e3 : Fc H t g k) (c0 : 0 ≤ c) (c1 : c < n) (d0 : 0 ≤ d) (d1 : d < n) (g0 : 0 ≤ g) (g1 : g < n) (n1 : n < 2 ^ 600)
    (k1 : ¬ (hang f s n c i d j ∧ hang f s n c i g k) → ∀ H', Same H H' → Q .non H') (k2 : hang f s n c i d j → hang f s n c i g k → ∀ (u : Addr) (H' : Hp), Same H H' → Fc H' u (owC f s n c i d j (adI f s c i d j g k)) (owI f s c i d j (adI f s c i d j g k)) → Q (.ref u) H') :
    sp_amid K [.ref p, .int n, .ref q, .ref r, .ref t] H Q E := ⟨p, f, s, n, q, c, i, r, d, j, t, g, k, rfl, D, e1, e2, e3, c0, c1, d0, d1, g0, g1, n1, k1, k2⟩
theorem gd {a b : Int} : a - b = a + -b := by omega
theorem ap_bd {f s n c d : Int} {i j : Bool} (hf : 1 ≤ f) (hs : 0 ≤ s) (c0 : 0 ≤ c) (c1 : c < n) (d0 : 0 ≤ d) (d1 : d < n) (h : hang f s n c i d j) : apI f s c i d j ≤ 2 * n + 2 := by
  have a := rsI_nn i
  have b := rsI_nn j
  unfold apI
  by_cases x : c = d ∧ i = j
  · rw [if_pos x]; omega
  · rw [if_neg x]
    obtain ⟨u1, u2⟩ := hang_no h x
    obtain ⟨_, _, A1, A2, A3, A4, _⟩ := piece_ends hf hs c0 c1 u1
    obtain ⟨_, _, B1, B2, B3, B4, _⟩ := piece_ends hf hs d0 d1 u2
    obtain ⟨A0, _⟩ := gL_nn hf hs c0 c1 u1
    obtain ⟨B0, _⟩ := gL_nn hf hs d0 d1 u2
    omega
end Wm

/-! All faces of a piece have this piece; its ends. -/
namespace Wm
open PySem PySem.Spec PyProof.Rows L2
theorem sec_at {f s t y m : Int} (hf : 1 ≤ f) (hs : 0 ≤ s) (ht : 0 ≤ t) (y0 : 0 ≤ y) (y1 : y < f + t * s) (h1 : m * ((f + t * s) / gcdI f s) ≤ y) (h2 : y < m * ((f + t * s) / gcdI f s) + (f + t * s) / gcdI f s) : secN f s (Bg f s t + y) = m := by
  obtain ⟨_, e2, e3⟩ := where_at hf hs ht y0 y1
  have ts := mul_nn ht hs
  obtain ⟨w1, w2⟩ := dvd_part (gcdI_pos (s := s) hf) (show 1 ≤ f + t * s by omega) (gcdI_dz f s t)
  unfold secN
  rw [e2, e3]
  exact div_is (by omega) h1 h2
/-- a cell of an upper turn lies within its sector's part beneath -/
theorem bn_sec {f s t x m : Int} (hf : 1 ≤ f) (hs : 0 ≤ s) (ht : 0 ≤ t) (x0 : 0 ≤ x) (x1 : x < f + t * s + s) (m0 : 0 ≤ m) (h1 : m * ((f + t * s + s) / gcdI f s) ≤ x) (h2 : x < m * ((f + t * s + s) / gcdI f s) + (f + t * s + s) / gcdI f s) :
    tOf f s (Bg f s (t + 1) + x) = t + 1 ∧ tOf f s (bnL f s (Bg f s (t + 1) + x)) = t ∧ secN f s (bnL f s (Bg f s (t + 1) + x)) = m ∧
    m * ((f + t * s) / gcdI f s) ≤ bnL f s (Bg f s (t + 1) + x) - Bg f s t ∧ bnH f s (Bg f s (t + 1) + x) - Bg f s t < m * ((f + t * s) / gcdI f s) + (f + t * s) / gcdI f s ∧ 0 ≤ bnL f s (Bg f s (t + 1) + x) - Bg f s t ∧ bnH f s (Bg f s (t + 1) + x) - Bg f s t < f + t * s := by
  have ts := mul_nn ht hs
  have gg := gcdI_pos (s := s) hf
  have ez : f + (t + 1) * s = f + t * s + s := by grind
  obtain ⟨w1, w2⟩ := dvd_part gg (show 1 ≤ f + t * s by omega) (gcdI_dz f s t)
  obtain ⟨v1, v2⟩ := dvd_part gg (show 1 ≤ f + (t + 1) * s by omega) (gcdI_dz f s (t + 1))
  rw [ez] at v1 v2
  obtain ⟨n1, n2, n3⟩ := bn_at hf hs ht x0 x1
  have ha : 0 < f + t * s := by omega
  have hz : 0 < f + t * s + s := by omega
  have lm : 0 ≤ x * (f + t * s) := mul_nn x0 (by omega)
  have e5 : (x + 1) * (f + t * s) = x * (f + t * s) + (f + t * s) := by grind
  have q0 : 0 ≤ x * (f + t * s) / (f + t * s + s) := Int.ediv_nonneg lm (by omega)
  have q2 : x * (f + t * s) / (f + t * s + s) ≤ ((x + 1) * (f + t * s) - 1) / (f + t * s + s) := Int.ediv_le_ediv hz (by omega)
  have q1 : ((x + 1) * (f + t * s) - 1) / (f + t * s + s) < f + t * s := by
    apply Int.ediv_lt_of_lt_mul hz
    have := Int.mul_le_mul_of_nonneg_right (show x + 1 ≤ f + t * s + s by omega) (show 0 ≤ f + t * s by omega)
    have e6 : (f + t * s) * (f + t * s + s) = (f + t * s + s) * (f + t * s) := Int.mul_comm _ _
    omega
  have k1 : m * ((f + t * s) / gcdI f s) ≤ x * (f + t * s) / (f + t * s + s) := by
    apply Int.le_ediv_of_mul_le hz
    have h3 := Int.mul_le_mul_of_nonneg_right h1 (show 0 ≤ f + t * s by omega)
    have h4 : m * ((f + t * s) / gcdI f s) * (gcdI f s * ((f + t * s + s) / gcdI f s)) = m * ((f + t * s + s) / gcdI f s) * (gcdI f s * ((f + t * s) / gcdI f s)) := by grind
    rw [v2, w2] at h4
    omega
  have k2 : ((x + 1) * (f + t * s) - 1) / (f + t * s + s) < m * ((f + t * s) / gcdI f s) + (f + t * s) / gcdI f s := by
    apply Int.ediv_lt_of_lt_mul hz
    have h3 := Int.mul_le_mul_of_nonneg_right (show x + 1 ≤ (m + 1) * ((f + t * s + s) / gcdI f s) by
      have : (m + 1) * ((f + t * s + s) / gcdI f s) = m * ((f + t * s + s) / gcdI f s) + (f + t * s + s) / gcdI f s := by grind
      omega) (show 0 ≤ f + t * s by omega)
    have h4 : (m + 1) * ((f + t * s) / gcdI f s) * (gcdI f s * ((f + t * s + s) / gcdI f s)) = (m + 1) * ((f + t * s + s) / gcdI f s) * (gcdI f s * ((f + t * s) / gcdI f s)) := by grind
    rw [v2, w2] at h4
    have h5 : (m + 1) * ((f + t * s) / gcdI f s) = m * ((f + t * s) / gcdI f s) + (f + t * s) / gcdI f s := by grind
    rw [h5] at h4
    omega
  rw [n2, n3]
  refine ⟨n1, (where_at hf hs ht q0 (by omega)).1, sec_at hf hs ht q0 (by omega) k1 (by omega), by omega, by omega, by omega, by omega⟩
theorem hang_of {f s n c d : Int} {i j : Bool} (h1 : ¬ gNo f s n c i) (h2 : ¬ gNo f s n d j) (e : tOf f s (gL f s c i) = tOf f s (gL f s d j)) (e' : secN f s (gL f s c i) = secN f s (gL f s d j)) (e3 : siz f s (gL f s c i) = siz f s (gL f s d j)) : hang f s n c i d j := by
  unfold hang pcL pcU pLo pLa pFi prt
  rw [if_neg h1, if_neg h2, if_neg h1, if_neg h2, e, e', e3]
  exact ⟨rfl, rfl⟩
theorem siz_of {f s G G' : Int} (e : tOf f s G = tOf f s G') : siz f s G = siz f s G' := by unfold siz; rw [e]
/-- all faces between a piece's ends hang together with it -/
theorem hang_piece {f s n c : Int} {i : Bool} (hf : 1 ≤ f) (hs : 0 ≤ s) (hc : 0 ≤ c) (h1 : c < n) (z : ¬ gNo f s n c i) :
    (∀ x, pFi f s (gL f s c i) ≤ x → x ≤ pLa f s n (gL f s c i) → 0 ≤ x ∧ x < n ∧ ¬ gNo f s n x true ∧ hang f s n c i x true ∧ pLo f s (gL f s c i) ≤ bnL f s x) ∧
    (∀ y, pLo f s (gL f s c i) ≤ y → y ≤ bnH f s (pLa f s n (gL f s c i)) → 0 ≤ y ∧ y < n ∧ ¬ gNo f s n y false ∧ hang f s n c i y false) := by
  obtain ⟨g0, g1, g2⟩ := gL_nn hf hs hc h1 z
  obtain ⟨P0, P1, P2, P3, P4, P5, P6, P7, P8⟩ := piece_ends hf hs hc h1 z
  obtain ⟨m0, w1, v1, b0, b1, b2, b3, b4, b5, b6, b7, b8, b9⟩ := piece_facts hf hs g0 g2
  have hgo : ∀ d j, ¬ gNo f s n d j → tOf f s (gL f s d j) = tOf f s (gL f s c i) → secN f s (gL f s d j) = secN f s (gL f s c i) → hang f s n c i d j := fun d j a b e => hang_of z a b.symm e.symm (siz_of b.symm)
  generalize gL f s c i = G at *
  have t0 := tOf_nn hf hs g0
  have ts := mul_nn t0 hs
  have ez : f + (tOf f s G + 1) * s = f + tOf f s G * s + s := by grind
  have bb := bg_ge hf hs t0
  have bs1 := bg_succ f s (tOf f s G)
  have sec2 : secN f s G * prt f s G + prt f s G ≤ f + tOf f s G * s + s := by
    have := Int.mul_le_mul_of_nonneg_right b7 (show 0 ≤ prt f s G by omega)
    have e5 : (secN f s G + 1) * prt f s G = secN f s G * prt f s G + prt f s G := by grind
    omega
  have mB := mul_nn m0 (show 0 ≤ prt f s G by omega)
  have eP : prt f s G = (f + tOf f s G * s + s) / gcdI f s := by unfold prt; rw [ez]
  have eA : siz f s G / gcdI f s = (f + tOf f s G * s) / gcdI f s := rfl
  have up : ∀ x, pFi f s G ≤ x → x ≤ pLa f s n G → x = Bg f s (tOf f s G + 1) + (x - Bg f s (tOf f s G + 1)) ∧ 0 ≤ x - Bg f s (tOf f s G + 1) ∧ x - Bg f s (tOf f s G + 1) < f + tOf f s G * s + s ∧ secN f s G * ((f + tOf f s G * s + s) / gcdI f s) ≤ x - Bg f s (tOf f s G + 1) ∧ x - Bg f s (tOf f s G + 1) < secN f s G * ((f + tOf f s G * s + s) / gcdI f s) + (f + tOf f s G * s + s) / gcdI f s := by
    intro x x1 x2
    have e1 : pFi f s G = Bg f s (tOf f s G + 1) + secN f s G * prt f s G := rfl
    have e2 : pLa f s n G = min (pFi f s G + prt f s G) n - 1 := rfl
    rw [← eP]
    omega
  refine ⟨fun x x1 x2 => ?_, fun y y1 y2 => ?_⟩
  · obtain ⟨q1, q2, q3, q4, q5⟩ := up x x1 x2
    have B := bn_sec hf hs t0 q2 q3 m0 q4 q5
    rw [← q1] at B
    obtain ⟨B1, B2, B3, B4, B5, B6, B7⟩ := B
    have ng : ¬ gNo f s n x true := by unfold gNo; simp; omega
    refine ⟨by omega, by omega, ng, hgo x true ng B2 B3, ?_⟩
    unfold pLo
    rw [eA]
    omega
  · obtain ⟨q1, q2, q3, q4, q5⟩ := up (pLa f s n G) b1 (Int.le_refl _)
    have B := bn_sec hf hs t0 q2 q3 m0 q4 q5
    rw [← q1] at B
    obtain ⟨B1, B2, B3, B4, B5, B6, B7⟩ := B
    have y0 : 0 ≤ y := by omega
    have am := ab_le hf hs y0 y2
    have ng : ¬ gNo f s n y false := by unfold gNo; simp; omega
    have e1 : pLo f s G = Bg f s (tOf f s G) + secN f s G * (siz f s G / gcdI f s) := rfl
    rw [eA] at e1
    have mA := mul_nn m0 (show 0 ≤ (f + tOf f s G * s) / gcdI f s by rw [← eA]; omega)
    have ey : y = Bg f s (tOf f s G) + (y - Bg f s (tOf f s G)) := by omega
    have T := (where_at hf hs t0 (show 0 ≤ y - Bg f s (tOf f s G) by omega) (by omega)).1
    have S := sec_at (m := secN f s G) hf hs t0 (show 0 ≤ y - Bg f s (tOf f s G) by omega) (by omega) (by omega) (by omega)
    rw [← ey] at T S
    exact ⟨y0, by omega, ng, hgo y false ng T S⟩
/-- the ends told -/
def enS (f s n c : Int) (i : Bool) : Int := if gNo f s n c i then c else pFi f s (gL f s c i)
def enSi (f s n c : Int) (i : Bool) : Bool := if gNo f s n c i then i else true
def enLo (f s n c : Int) (i : Bool) : Int := apI f s (pFi f s (gL f s c i)) true (bnH f s (pLa f s n (gL f s c i))) false
def enUp (f s n c : Int) (i : Bool) : Int := apI f s (pFi f s (gL f s c i)) true (pLa f s n (gL f s c i)) true
def enM (f s n c : Int) (i : Bool) : Int := if gNo f s n c i then 0 else if enLo f s n c i < enUp f s n c i then enUp f s n c i else enLo f s n c i
def enE (f s n c : Int) (i : Bool) : Int := if gNo f s n c i then c else if enLo f s n c i < enUp f s n c i then pLa f s n (gL f s c i) else bnH f s (pLa f s n (gL f s c i))
def enEi (f s n c : Int) (i : Bool) : Bool := if gNo f s n c i then i else decide (enLo f s n c i < enUp f s n c i)
section
variable (K : PySem.W.Frag)
def sp_ends : Sp := fun vs H Q _ => ∃ (p : Addr) (f s n : Int) (q : Addr) (c : Int) (i : Bool), vs = [.ref p, .int n, .ref q] ∧ Drm K H p f s ∧ Fc H q c i ∧ 0 ≤ c ∧ c < n ∧ n < 2 ^ 600 ∧
  ∀ (r u v : Addr) (H' : Hp), Same H H' → H' r = some (.tup [.int (enM f s n c i), .ref u, .ref v]) → Fc H' u (enS f s n c i) (enSi f s n c i) → Fc H' v (enE f s n c i) (enEi f s n c i) → Q (.ref r) H'
end
theorem y_ends {K : PySem.W.Frag} {H : Hp} {Q : VK} {E : XK} {p q : Addr} {f s n c : Int} {i : Bool} (d : Drm K H p f s) (e : Fc H q c i) (h0 : 0 ≤ c) (h1 : c < n) (h2 : n < 2 ^ 600)
    (h : ∀ (r u v : Addr) (H' : Hp), Same H H' → H' r = some (.tup [.int (enM f s n c i), .ref u, .ref v]) → Fc H' u (enS f s n c i) (enSi f s n c i) → Fc H' v (enE f s n c i) (enEi f s n c i) → Q (.ref r) H') : sp_ends K [.ref p, .int n, .ref q] H Q E := ⟨p, f, s, n, q, c, i, rfl, d, e, h0, h1, h2, h⟩
/-- the told ends: faces of the roll that hang together, so far apart -/
theorem ends_ok {f s n c : Int} {i : Bool} (hf : 1 ≤ f) (hs : 0 ≤ s) (hc : 0 ≤ c) (h1 : c < n) : 0 ≤ enS f s n c i ∧ enS f s n c i < n ∧ 0 ≤ enE f s n c i ∧ enE f s n c i < n ∧
    hang f s n c i (enS f s n c i) (enSi f s n c i) ∧ hang f s n c i (enE f s n c i) (enEi f s n c i) ∧ enM f s n c i = apI f s (enS f s n c i) (enSi f s n c i) (enE f s n c i) (enEi f s n c i) := by
  by_cases z : gNo f s n c i
  · unfold enS enE enSi enEi enM
    rw [if_pos z, if_pos z, if_pos z, if_pos z, if_pos z]
    refine ⟨hc, h1, hc, h1, ⟨rfl, rfl⟩, ⟨rfl, rfl⟩, ?_⟩
    unfold apI
    rw [if_pos ⟨rfl, rfl⟩]
  · obtain ⟨U, L⟩ := hang_piece hf hs hc h1 z
    obtain ⟨g0, g1, g2⟩ := gL_nn hf hs hc h1 z
    obtain ⟨P0, P1, P2, P3, P4, P5, P6, P7, P8⟩ := piece_ends hf hs hc h1 z
    obtain ⟨m0, w1, v1, b0, b1, b2, b3, b4, b5, b6, b7, b8, b9⟩ := piece_facts hf hs g0 g2
    obtain ⟨u0, u1, u2, u3, u4⟩ := U _ (Int.le_refl _) b1
    obtain ⟨v0, v1, v2, v3, v4⟩ := U _ b1 (Int.le_refl _)
    have nz : ¬ tOf f s (pLa f s n (gL f s c i)) = 0 := by have := tOf_nn hf hs g0; omega
    have hh := (ab_bnH hf hs v0 nz).1
    obtain ⟨l0, l1, l2, l3⟩ := L _ (by omega) (Int.le_refl _)
    unfold enS enE enSi enEi enM
    rw [if_neg z, if_neg z, if_neg z, if_neg z, if_neg z]
    by_cases x : enLo f s n c i < enUp f s n c i
    · rw [if_pos x, if_pos x, decide_eq_true x]
      exact ⟨u0, u1, v0, v1, u3, v3, rfl⟩
    · rw [if_neg x, if_neg x, decide_eq_false x]
      exact ⟨u0, u1, l0, l1, u3, l3, rfl⟩
end Wm

/-! The widest piece; a sector's share. -/
namespace Wm
open PySem PySem.Spec PyProof.Rows L2
/-- the first cell of the gap with the widest piece: the last one's, or the one ahead of it -/
def wsC (f s n : Int) : Int := if enM f s n (Bg f s (tOf f s (n - 1))) true < enM f s n (Bg f s (tOf f s (n - 1) - 1)) true then Bg f s (tOf f s (n - 1) - 1) else Bg f s (tOf f s (n - 1))
def shI (f s n k : Int) : Int := Bg f s (tOf f s (n - 1)) / gcdI f s + min ((f + tOf f s (n - 1) * s) / gcdI f s) (max 0 (n - 1 - Bg f s (tOf f s (n - 1)) + 1 - k * ((f + tOf f s (n - 1) * s) / gcdI f s)))
section
variable (K : PySem.W.Frag)
def sp_widest : Sp := fun vs H Q _ => ∃ (p : Addr) (f s n : Int), vs = [.ref p, .int n] ∧ Drm K H p f s ∧ 1 ≤ n ∧ n < 2 ^ 600 ∧ (tOf f s (n - 1) = 0 → ∀ H', Same H H' → Q .non H') ∧
  (¬ tOf f s (n - 1) = 0 → ∀ (r u v : Addr) (H' : Hp), Same H H' → H' r = some (.tup [.int (enM f s n (wsC f s n) true), .ref u, .ref v]) → Fc H' u (enS f s n (wsC f s n) true) (enSi f s n (wsC f s n) true) → Fc H' v (enE f s n (wsC f s n) true) (enEi f s n (wsC f s n) true) → Q (.ref r) H')
def sp_share : Sp := fun vs H Q _ => ∃ (p : Addr) (f s n k : Int), vs = [.ref p, .int n, .int k] ∧ Drm K H p f s ∧ 1 ≤ n ∧ n < 2 ^ 600 ∧ 0 ≤ k ∧ k < gcdI f s ∧ ∀ H', Same H H' → Q (.int (shI f s n k)) H'
end
section
variable {K : PySem.W.Frag} {H : Hp} {Q : VK} {E : XK} {p : Addr} {f s n k : Int}
theorem y_widest (d : Drm K H p f s) (h0 : 1 ≤ n) (h1 : n < 2 ^ 600) (k1 : tOf f s (n - 1) = 0 → ∀ H', Same H H' → Q .non H')
    (k2 : ¬ tOf f s (n - 1) = 0 → ∀ (r u v : Addr) (H' : Hp), Same H H' → H' r = some (.tup [.int (enM f s n (wsC f s n) true), .ref u, .ref v]) → Fc H' u (enS f s n (wsC f s n) true) (enSi f s n (wsC f s n) true) → Fc H' v (enE f s n (wsC f s n) true) (enEi f s n (wsC f s n) true) → Q (.ref r) H') : sp_widest K [.ref p, .int n] H Q E := ⟨p, f, s, n, rfl, d, h0, h1, k1, k2⟩
theorem y_share (d : Drm K H p f s) (h0 : 1 ≤ n) (h1 : n < 2 ^ 600) (k0 : 0 ≤ k) (k1 : k < gcdI f s) (h : ∀ H', Same H H' → Q (.int (shI f s n k)) H') : sp_share K [.ref p, .int n, .int k] H Q E := ⟨p, f, s, n, k, rfl, d, h0, h1, k0, k1, h⟩
end
end Wm

/-! sorted of a list that reads as data: the rule. -/
namespace Wm
open PySem PySem.Spec PyProof.Rows L2
def rSortedDt (K : PySem.W.Frag) : List V → Hp → VK → Prop := fun vs H Q => ∃ (a : Addr) (bs : List (V × PyData)), vs = [.ref a] ∧ SqL K H a (bs.map (·.1)) ∧ (∀ b ∈ bs, Dp K H b.1 b.2 ∧ b.2.depth ≤ 8) ∧
  PySem.W.AllAlike (bs.map (·.2)) ∧ PySem.W.Sortable (bs.map (·.2)) ∧ ∀ p, H p = none → Q (.ref p) (upd H p (.lst ((bs.mergeSort (PySem.W.dataLe false (·.2))).map (·.1))))
theorem each_of_vals : ∀ {bs : List (V × PyData)} {us : List Value}, Vals (bs.map (·.1)) us → PySem.W.EachIs (fun (u : Value) (b : V × PyData) => RelV b.1 u) us bs
  | [], us, h => by
    have h' : Vals [] us := h
    cases h'
    exact .nil
  | b :: bs, us, h => by
    have h' : Vals (b.1 :: bs.map (·.1)) us := h
    cases h' with
    | cons r t => exact .cons r (each_of_vals t)
theorem vals_of_each : ∀ {bs : List (V × PyData)} {us : List Value}, PySem.W.EachIs (fun (u : Value) (b : V × PyData) => RelV b.1 u) us bs → Vals (bs.map (·.1)) us
  | _, _, .nil => .nil
  | _, _, .cons r t => .cons r (vals_of_each t)
theorem each_dp {X : Cx} {pins : List (Addr × Obj)} {σ : L2.St} {H : Hp} {s : Shared} (I : Inv X pins σ H s) : ∀ {bs : List (V × PyData)} {us : List Value}, (∀ b ∈ bs, Dp X.K H b.1 b.2 ∧ b.2.depth ≤ 8) → PySem.W.EachIs (fun (u : Value) (b : V × PyData) => RelV b.1 u) us bs →
    PySem.W.EachIs (fun u b => ∃ as, Reads s.heap u b.2 as) us bs
  | _, _, _, .nil => .nil
  | b :: bs, _, h, .cons r t => .cons (Dp.reads I b.2 b.1 _ (h b List.mem_cons_self).1 r) (each_dp I (fun x m => h x (List.mem_cons_of_mem _ m)) t)
theorem cr_sortedDt {X : Cx} (hu : X.A.units + 64 < cLine) : CallR X (.builtin "sorted") (rSortedDt X.K) := by
  intro pins s σ H vs us Q I r h
  obtain ⟨a, bs, rfl, hs, hd, hal, hk, q⟩ := h
  obtain ⟨its, rv, hl, hz⟩ := I.list hs
  rw [Vals.ref1 r]
  have e := each_of_vals rv
  have er := each_dp I hd e
  have hlen : bs.length ≤ sizeLine := by
    rw [List.length_map] at hz
    exact hz
  refine PySem.W.sorted_data hl.isList e er hal hk hlen (fun b hb => ?_) fun out ho eo => ?_
  · have := (hd b hb).2
    omega
  obtain ⟨ep, he'⟩ := PyProof.Rows.sortedAll_at s.heap its out.toArray
  refine ⟨.ref _, upd H (s.heap.objs.size + 1) (.lst ((bs.mergeSort (PySem.W.dataLe false (·.2))).map (·.1))), I.laid (t' := s.toks) (fun _ _ => PyProof.Rows.sortedAll_old) (Nat.le_succ _) ⟨?_, out, ep, vals_of_each eo, he'⟩, rfl, q _ (I.hok.fresh (Nat.le_succ _))⟩
  rw [List.length_map, List.length_mergeSort]
  exact hlen
end Wm

/-! The middle faces. -/
namespace Wm
open PySem PySem.Spec PyProof.Rows L2
theorem ms2 {α : Type} {le : α → α → Bool} {x y : α} : [x, y].mergeSort le = if le x y = true then [x, y] else [y, x] := by
  simp [List.mergeSort, List.MergeSort.Internal.splitInTwo, List.merge]
theorem ms1 {α : Type} {le : α → α → Bool} {x : α} : [x].mergeSort le = [x] := by
  simp
def fdD (c : Int) (i : Bool) : PyData := .tuple [.int c, .str (sdS i)]
theorem alike_fd {c d : Int} {i j : Bool} : PySem.W.alike (fdD c i) (fdD d j) = true := by
  unfold fdD
  simp [PySem.W.alike, PySem.W.alikeAll]
theorem depth_fd {c : Int} {i : Bool} : (fdD c i).depth ≤ 8 := by
  have : (fdD c i).depth = 1 := by
    unfold fdD PyData.depth
    simp [PyData.depthAll, PyData.depth]
  omega
/-- whether a face comes ahead of another one, or is it -/
def leF (c : Int) (i : Bool) (d : Int) (j : Bool) : Bool := PySem.W.dataLe false (fun x : PyData => x) (fdD c i) (fdD d j)
section
variable {K : PySem.W.Frag} {H : Hp} {Q : VK} {a u v : Addr} {c d : Int} {i j : Bool}
theorem Fc.dp (e : Fc H u c i) : Dp K H (.ref u) (fdD c i) := .tup (.inl (.inl e)) (.cons (.int c) (.cons (.str _) .nil))
theorem x_sort1 (e : H a = some (.lst [.ref u])) (f : Fc H u c i) (h : ∀ p, H p = none → Q (.ref p) (upd H p (.lst [.ref u]))) : rSortedDt K [.ref a] H Q :=
  ⟨a, [(.ref u, fdD c i)], rfl, .inl (.inl e), fun b m => by
    rw [List.mem_singleton] at m
    subst m
    exact ⟨f.dp, depth_fd⟩, fun x m y m' => by
    simp only [List.map_cons, List.map_nil, List.mem_singleton] at m m'
    subst m m'
    exact alike_fd, .inl fun x m => by
    simp only [List.map_cons, List.map_nil, List.mem_singleton] at m
    subst m
    exact ⟨_, _, rfl⟩, fun p hp => by rw [ms1]; exact h p hp⟩
theorem x_sort2 (e : H a = some (.lst [.ref u, .ref v])) (f : Fc H u c i) (g : Fc H v d j) (h : ∀ p, H p = none → Q (.ref p) (upd H p (.lst (if leF c i d j = true then [.ref u, .ref v] else [.ref v, .ref u])))) : rSortedDt K [.ref a] H Q :=
  ⟨a, [(.ref u, fdD c i), (.ref v, fdD d j)], rfl, .inl (.inl e), fun b m => by
    simp only [List.mem_cons, List.not_mem_nil, or_false] at m
    rcases m with rfl | rfl
    · exact ⟨f.dp, depth_fd⟩
    · exact ⟨g.dp, depth_fd⟩, fun x m y m' => by
    simp only [List.map_cons, List.map_nil, List.mem_cons, List.not_mem_nil, or_false] at m m'
    rcases m with rfl | rfl <;> rcases m' with rfl | rfl <;> exact alike_fd, .inl fun x m => by
    simp only [List.map_cons, List.map_nil, List.mem_cons, List.not_mem_nil, or_false] at m
    rcases m with rfl | rfl <;> exact ⟨_, _, rfl⟩, fun p hp => by
    rw [ms2]
    have e2 : PySem.W.dataLe false (fun x : V × PyData => x.2) (V.ref u, fdD c i) (V.ref v, fdD d j) = leF c i d j := rfl
    rw [e2]
    have h' := h p hp
    cases hl : leF c i d j
    · rw [hl] at h'; exact h'
    · rw [hl] at h'; exact h'⟩
end
theorem none_of {H H' : Hp} {p : Addr} (s : Same H H') (h : H' p = none) : H p = none := by
  cases e : H p with
  | none => rfl
  | some o => rw [s _ _ e] at h; cases h
/-- the face so many touches from the one end told -/
def mdC (f s n c : Int) (i : Bool) (k : Int) : Int := owC f s n (enS f s n c i) (enSi f s n c i) (enE f s n c i) (enEi f s n c i) k
def mdI (f s n c : Int) (i : Bool) (k : Int) : Bool := owI f s (enS f s n c i) (enSi f s n c i) (enE f s n c i) (enEi f s n c i) k
def mdLe (f s n c : Int) (i : Bool) : Bool := leF (mdC f s n c i (enM f s n c i / 2)) (mdI f s n c i (enM f s n c i / 2)) (mdC f s n c i (enM f s n c i / 2 + 1)) (mdI f s n c i (enM f s n c i / 2 + 1))
section
variable (K : PySem.W.Frag)
def sp_middle : Sp := fun vs H Q _ => ∃ (p : Addr) (f s n : Int) (q : Addr) (c : Int) (i : Bool), vs = [.ref p, .int n, .ref q] ∧ Drm K H p f s ∧ Fc H q c i ∧ 0 ≤ c ∧ c < n ∧ n < 2 ^ 600 ∧
  (¬ enM f s n c i % 2 = 1 → ∀ (r u : Addr) (H' : Hp), Same H H' → H r = none → H' r = some (.lst [.ref u]) → Fc H' u (mdC f s n c i (enM f s n c i / 2)) (mdI f s n c i (enM f s n c i / 2)) → Q (.ref r) H') ∧
  (enM f s n c i % 2 = 1 → ∀ (r u v : Addr) (H' : Hp), Same H H' → H r = none → H' r = some (.lst (if mdLe f s n c i = true then [.ref u, .ref v] else [.ref v, .ref u])) → Fc H' u (mdC f s n c i (enM f s n c i / 2)) (mdI f s n c i (enM f s n c i / 2)) →
    Fc H' v (mdC f s n c i (enM f s n c i / 2 + 1)) (mdI f s n c i (enM f s n c i / 2 + 1)) → Q (.ref r) H')
end
theorem y_middle {K : PySem.W.Frag} {H : Hp} {Q : VK} {E : XK} {p q : Addr} {f s n c : Int} {i : Bool} (d : Drm K H p f s) (e : Fc H q c i) (h0 : 0 ≤ c) (h1 : c < n) (h2 : n < 2 ^ 600)
    (k1 : ¬ enM f s n c i % 2 = 1 → ∀ (r u : Addr) (H' : Hp), Same H H' → H' r = some (.lst [.ref u]) → Fc H' u (mdC f s n c i (enM f s n c i / 2)) (mdI f s n c i (enM f s n c i / 2)) → Q (.ref r) H')
    (k2 : enM f s n c i % 2 = 1 → ∀ (r u v : Addr) (H' : Hp), Same H H' → H' r = some (.lst (if mdLe f s n c i = true then [.ref u, .ref v] else [.ref v, .ref u])) → Fc H' u (mdC f s n c i (enM f s n c i / 2)) (mdI f s n c i (enM f s n c i / 2)) →
      Fc H' v (mdC f s n c i (enM f s n c i / 2 + 1)) (mdI f s n c i (enM f s n c i / 2 + 1)) → Q (.ref r) H') : sp_middle K [.ref p, .int n, .ref q] H Q E := ⟨p, f, s, n, q, c, i, rfl, d, e, h0, h1, h2, fun o r u H' s _ => k1 o r u H' s, fun o r u v H' s _ => k2 o r u v H' s⟩
end Wm

/-! f(k = v, ..): all by keywords, in the reverse of the def's order. -/
namespace Wm
open PySem PySem.Spec PyProof.Rows L2
def tCallN0 (m : Nat) (sp : Sp) (gV : List V → List V → List V) (E : XK) (tk : TA) : TE := fun σ H Q => tk σ H fun zs H2 => zs.length = m ∧ sp (gV [] zs) H2 Q E
section
variable {X : Cx} {CX : CXT} {k : Nat} {f : Addr} {fd : FuncData} {ps ks : List Str} {sp : Sp} {E : XK} {x : Str} {p pos : Pos} {kws : List Keyword} {tk : TA} {g : List Value → List Value → List Value} {gV : List V → List V → List V}
theorem pe_callN0 (F : FnOk X.prog X.w X.K X.mg X.base CX k f fd ps sp) (hr : Room k X.A) (hg : Gl X x) (hm : X.mg x = some (.ref f)) (hk : PySem.W.keepIn X.K (.ref f) = true) (hb : KBn X.K fd ps 0 ks g gV) (hx : Passes CX X E)
    (hkw : PK X kws tk) (hall : (backToKw pos (keywordEach kws X.env)).all (·.1.isSome) = true := by rfl) (hks : (backToKw pos (keywordEach kws X.env)).filterMap (·.1) = ks := by rfl)
    (hdb : (x == ("__debug__" : Str)) = false := by decide)
    (hpl : ((backTo pos (starEach [] X.env)).any (·.1) || (backToKw pos (keywordEach kws X.env)).any (·.1.isNone)) = false := by rfl) :
    PE X (.Call (.Name x p) [] kws pos) (tCallN0 ks.length sp gV E tk) := by
  refine ⟨fun pins s σ H Q I h => ?_⟩
  refine wpAny_Call_Name_kw (ld_glob I hg hm ?_ hdb)
  refine PySem.W.callWith_KW0 (first := []) (h₀ := X.base) I.ok.mod.kin hk hall (thn (hkw.run pos pins s σ H _ I h) fun ws s2 ⟨zs, H2, I2, rz, l2, q2⟩ => ⟨I2.kIn, ?_⟩) hpl
  rw [hks]
  exact run_fnN (us := []) (vs := []) F hr hb hx I2 .nil rz rfl l2 q2
end
theorem vals_rev : ∀ {zs : List V} {ws : List Value}, Vals zs ws → Vals zs.reverse ws.reverse
  | _, _, .nil => .nil
  | z :: zs, w :: ws, .cons r t => by
    rw [List.reverse_cons, List.reverse_cons]
    exact (vals_rev t).append (.cons r .nil)
theorem rel_rev {vs : List V} {us : List Value} {zs : List V} {ws : List Value} (h : Vals vs us) (k : Vals zs ws) : Vals (vs ++ zs.reverse) (us ++ ws.reverse) := h.append (vals_rev k)
section
variable {σ : L2.St} {H : Hp} {Q : VK} {E : XK} {k : Nat} {sp : Sp} {gV : List V → List V → List V} {tk : TA}
theorem x_callN0 (h : tk σ H fun zs H2 => zs.length = k ∧ sp (gV [] zs) H2 Q E) : tCallN0 k sp gV E tk σ H Q := h
end
end Wm

/-! == of like data. -/
namespace Wm
open PySem PySem.Spec PyProof.Rows L2
theorem eqv_fd {c : Int} {i : Bool} : PyData.eqv (fdD c i) (fdD c i) = true := by
  unfold fdD
  rw [PyData.eqv]
  simp [PyData.eqvAll, PyData.eqv]
theorem lay_fd {c : Int} {i : Bool} : PyData.canLay0 (fdD c i) = true := by
  have h0 : PyData.strOk (sdS i) = true := by cases i <;> decide +kernel
  unfold fdD PyData.canLay0
  simp [PyData.canLayAll0, PyData.canLay0, h0]
theorem depth1_fd {c : Int} {i : Bool} : (fdD c i).depth = 1 := by
  unfold fdD PyData.depth
  simp [PyData.depthAll, PyData.depth]
theorem eqv_ints (ns : List Int) : PyData.eqv (.tuple (ns.map PyData.int)) (.tuple (ns.map PyData.int)) = true := by
  rw [PyData.eqv, eqvAll_ints]; simp
section
variable {K : PySem.W.Frag} {H : Hp} {Q : VK} {p q : Addr}
theorem x_eqSame {x y : V} {d : PyData} (a : Dp K H x d) (b : Dp K H y d) (sh : SeqAt.shaped d = true) (e : PyData.eqv d d = true) (h : Q (.bl true) H) : rEqD K x y H Q := ⟨d, d, a, b, sh, sh, by rw [e]; exact h⟩
theorem x_eqS2 {a b : Int} (hp : H p = some (.tup [.int a, .int b])) (hq : H q = some (.tup [.int a, .int b])) (h : Q (.bl true) H) : rEqD K (.ref p) (.ref q) H Q :=
  x_eqSame (d := .tuple ([a, b].map PyData.int)) (.tup (.inl (.inl hp)) (dpAll_ints [a, b])) (.tup (.inl (.inl hq)) (dpAll_ints [a, b])) (shaped_ints _ (Nat.le_of_ble_eq_true rfl)) (eqv_ints _) h
theorem x_eqSF {c : Int} {i : Bool} (hp : Fc H p c i) (hq : Fc H q c i) (h : Q (.bl true) H) : rEqD K (.ref p) (.ref q) H Q :=
  x_eqSame hp.dp hq.dp (shaped_fc c i) eqv_fd h
theorem x_eqSP {v w v' w' : V} {o u : Option (Int × Int)} (hp : H p = some (.tup [v, w])) (hq : H q = some (.tup [v', w'])) (a : PairV H v o) (b : PairV H w u) (a' : PairV H v' o) (b' : PairV H w' u) (h : Q (.bl true) H) : rEqD K (.ref p) (.ref q) H Q :=
  x_eqSame (d := .tuple [pdO o, pdO u]) (.tup (.inl (.inl hp)) (.cons a.dp (.cons b.dp .nil))) (.tup (.inl (.inl hq)) (.cons a'.dp (.cons b'.dp .nil))) (shaped_pp o u) (by
    rw [PyData.eqv]
    simp [PyData.eqvAll, eqv_pd]) h
theorem x_eqSE {m c d : Int} {i j : Bool} {u v u' v' : Addr} (hp : H p = some (.tup [.int m, .ref u, .ref v])) (hq : H q = some (.tup [.int m, .ref u', .ref v'])) (a : Fc H u c i) (b : Fc H v d j) (a' : Fc H u' c i) (b' : Fc H v' d j) (h : Q (.bl true) H) : rEqD K (.ref p) (.ref q) H Q :=
  x_eqSame (d := .tuple [.int m, fdD c i, fdD d j]) (.tup (.inl (.inl hp)) (.cons (.int m) (.cons a.dp (.cons b.dp .nil)))) (.tup (.inl (.inl hq)) (.cons (.int m) (.cons a'.dp (.cons b'.dp .nil)))) (by
    unfold SeqAt.shaped
    have h1 : PyData.canLay0 (.tuple [.int m, fdD c i, fdD d j]) = true := by
      unfold PyData.canLay0
      simp [PyData.canLayAll0, lay_fd, PyData.canLay0]
    have h2 : PyData.depth (.tuple [.int m, fdD c i, fdD d j]) = 2 := by
      unfold PyData.depth
      simp [PyData.depthAll, depth1_fd, PyData.depth]
    rw [h1, h2]
    decide) (by
    rw [PyData.eqv]
    simp [PyData.eqvAll, eqv_fd, PyData.eqv]) h
theorem x_eqSL1 {c : Int} {i : Bool} {u u' : Addr} (hp : H p = some (.lst [.ref u])) (hq : H q = some (.lst [.ref u'])) (a : Fc H u c i) (a' : Fc H u' c i) (h : Q (.bl true) H) : rEqD K (.ref p) (.ref q) H Q :=
  x_eqSame (d := .list [fdD c i]) (.lst (.inl (.inl hp)) (.cons a.dp .nil)) (.lst (.inl (.inl hq)) (.cons a'.dp .nil)) (by
    unfold SeqAt.shaped
    have h1 : PyData.canLay0 (.list [fdD c i]) = true := by
      unfold PyData.canLay0
      simp [PyData.canLayAll0, lay_fd]
    have h2 : PyData.depth (.list [fdD c i]) = 2 := by
      unfold PyData.depth
      simp [PyData.depthAll, depth1_fd]
    rw [h1, h2]
    decide) (by
    rw [PyData.eqv]
    simp [PyData.eqvAll, eqv_fd]) h
theorem x_eqSL2 {c d : Int} {i j : Bool} {u v u' v' : Addr} (hp : H p = some (.lst [.ref u, .ref v])) (hq : H q = some (.lst [.ref u', .ref v'])) (a : Fc H u c i) (b : Fc H v d j) (a' : Fc H u' c i) (b' : Fc H v' d j) (h : Q (.bl true) H) : rEqD K (.ref p) (.ref q) H Q :=
  x_eqSame (d := .list [fdD c i, fdD d j]) (.lst (.inl (.inl hp)) (.cons a.dp (.cons b.dp .nil))) (.lst (.inl (.inl hq)) (.cons a'.dp (.cons b'.dp .nil))) (by
    unfold SeqAt.shaped
    have h1 : PyData.canLay0 (.list [fdD c i, fdD d j]) = true := by
      unfold PyData.canLay0
      simp [PyData.canLayAll0, lay_fd]
    have h2 : PyData.depth (.list [fdD c i, fdD d j]) = 2 := by
      unfold PyData.depth
      simp [PyData.depthAll, depth1_fd]
    rw [h1, h2]
    decide) (by
    rw [PyData.eqv]
    simp [PyData.eqvAll, eqv_fd]) h
end
/-- what the law of names keeps on the heap -/
structure S42 (K : PySem.W.Frag) (H : Hp) (w : Addr) (f s : Int) (a b e : Addr) (x y z : Int) (r1 r2 : Addr) (l1 l2 u1 u2 : Int) (ls : Addr) (k : Nat) (lp : Addr) (cells : List V) : Prop where
  D : Drm K H w f s
  A : Fc H a x true
  B : Fc H b y false
  C : Fc H e z true
  E1 : H r1 = some (.tup [.int l1, .int l2])
  E2 : H r2 = some (.tup [.int u1, .int u2])
  L : H ls = some (.lst (List.replicate k (V.bl true)))
  P : H lp = some (.lst cells)
  ne : lp ≠ ls
section
variable {K : PySem.W.Frag} {H H' : Hp} {w : Addr} {f s : Int} {a b e : Addr} {x y z : Int} {r1 r2 : Addr} {l1 l2 u1 u2 : Int} {ls : Addr} {k : Nat} {lp : Addr} {cells : List V} {Q : VK}
theorem S42.same (S : S42 K H w f s a b e x y z r1 r2 l1 l2 u1 u2 ls k lp cells) (h : Same H H') : S42 K H' w f s a b e x y z r1 r2 l1 l2 u1 u2 ls k lp cells :=
  ⟨S.D.same h, h _ _ S.A, h _ _ S.B, h _ _ S.C, h _ _ S.E1, h _ _ S.E2, h _ _ S.L, h _ _ S.P, S.ne⟩
theorem S42.app (S : S42 K H w f s a b e x y z r1 r2 l1 l2 u1 u2 ls k lp cells) : S42 K (upd H ls (.lst (List.replicate k (V.bl true) ++ [V.bl true]))) w f s a b e x y z r1 r2 l1 l2 u1 u2 ls (k + 1) lp cells := by
  refine ⟨Drm.set S.L S.D, ?_, ?_, ?_, ?_, ?_, ?_, ?_, S.ne⟩
  · exact (upd_ne (ne_of S.A S.L (by intro z; cases z))).trans S.A
  · exact (upd_ne (ne_of S.B S.L (by intro z; cases z))).trans S.B
  · exact (upd_ne (ne_of S.C S.L (by intro z; cases z))).trans S.C
  · exact (upd_ne (ne_of S.E1 S.L (by intro z; cases z))).trans S.E1
  · exact (upd_ne (ne_of S.E2 S.L (by intro z; cases z))).trans S.E2
  · rw [List.replicate_succ']
    exact upd_same
  · exact (upd_ne S.ne).trans S.P
/-- one more truth is put behind -/
theorem x_app42 {t : Bool} (S : S42 K H w f s a b e x y z r1 r2 l1 l2 u1 u2 ls k lp cells) (ht : t = true) (hk : k ≤ 1000)
    (h : ∀ H', S42 K H' w f s a b e x y z r1 r2 l1 l2 u1 u2 ls (k + 1) lp cells → Q .non H') : rAppend (.ref ls) [.bl t] H Q := by
  subst ht
  exact x_append S.L (by rw [List.length_replicate]; exact hk) (h _ S.app)
theorem x_all42 (e : H ls = some (.lst (List.replicate k (V.bl true)))) (h : Q (.bl true) H) : rAll K [.ref ls] H Q :=
  ⟨ls, List.replicate k true, rfl, .inl (.inl (by rw [List.map_replicate]; exact e)), by
    have e2 : (List.replicate k true).all id = true := by simp
    rw [e2]; exact h⟩
end
theorem k42f {f s n : Int} (hf : 1 ≤ f) (hs : 0 ≤ s) (c0 : 0 ≤ n - 1) (z : ¬ gNo f s n (n - 1) true) :
    (0 ≤ pLo f s (gL f s (n - 1) true) ∧ pLo f s (gL f s (n - 1) true) < n ∧ ¬ gNo f s n (pLo f s (gL f s (n - 1) true)) false ∧ hang f s n (n - 1) true (pLo f s (gL f s (n - 1) true)) false) ∧
    (0 ≤ pFi f s (gL f s (n - 1) true) ∧ pFi f s (gL f s (n - 1) true) < n ∧ hang f s n (n - 1) true (pFi f s (gL f s (n - 1) true)) true) := by
  obtain ⟨U, L⟩ := hang_piece hf hs c0 (by omega) z
  obtain ⟨g0, g1, g2⟩ := gL_nn hf hs c0 (by omega) z
  obtain ⟨m0, w1, v1, b0, b1, b2, b3, b4, b5, b6, b7, b8, b9⟩ := piece_facts hf hs g0 g2
  obtain ⟨u0, u1, u2, u3, u4⟩ := U _ (Int.le_refl _) b1
  obtain ⟨v0, v1, v2, v3, v4⟩ := U _ b1 (Int.le_refl _)
  have nz : ¬ tOf f s (pLa f s n (gL f s (n - 1) true)) = 0 := by have := tOf_nn hf hs g0; omega
  have hh := (ab_bnH hf hs v0 nz).1
  obtain ⟨l0, l1, l2, l3⟩ := L _ (Int.le_refl _) (by omega)
  exact ⟨⟨l0, l1, l2, l3⟩, u0, u1, u3⟩
/-- what middle tells -/
def MidR (H : Hp) (f s n c : Int) (i : Bool) (r : Addr) : Prop :=
  (∃ u, H r = some (.lst [.ref u]) ∧ Fc H u (mdC f s n c i (enM f s n c i / 2)) (mdI f s n c i (enM f s n c i / 2)) ∧ ¬ enM f s n c i % 2 = 1) ∨
  (∃ u v, H r = some (.lst (if mdLe f s n c i = true then [.ref u, .ref v] else [.ref v, .ref u])) ∧ Fc H u (mdC f s n c i (enM f s n c i / 2)) (mdI f s n c i (enM f s n c i / 2)) ∧
    Fc H v (mdC f s n c i (enM f s n c i / 2 + 1)) (mdI f s n c i (enM f s n c i / 2 + 1)) ∧ enM f s n c i % 2 = 1)
theorem MidR.same {H H' : Hp} {f s n c : Int} {i : Bool} {r : Addr} (m : MidR H f s n c i r) (h : Same H H') : MidR H' f s n c i r := by
  rcases m with ⟨u, a, b, o⟩ | ⟨u, v, a, b, d, o⟩
  · exact .inl ⟨u, h _ _ a, h _ _ b, o⟩
  · exact .inr ⟨u, v, h _ _ a, h _ _ b, h _ _ d, o⟩
theorem y_middleR {K : PySem.W.Frag} {H : Hp} {Q : VK} {E : XK} {p q : Addr} {f s n c : Int} {i : Bool} (d : Drm K H p f s) (e : Fc H q c i) (h0 : 0 ≤ c) (h1 : c < n) (h2 : n < 2 ^ 600)
    (k : ∀ (r : Addr) (H' : Hp), Same H H' → MidR H' f s n c i r → Q (.ref r) H') : sp_middle K [.ref p, .int n, .ref q] H Q E :=
  y_middle d e h0 h1 h2 (fun o r u H' s a b => k r H' s (.inl ⟨u, a, b, o⟩)) (fun o r u v H' s a b c => k r H' s (.inr ⟨u, v, a, b, c, o⟩))
theorem x_eqSM {K : PySem.W.Frag} {H : Hp} {Q : VK} {p q : Addr} {f s n c : Int} {i : Bool} (a : MidR H f s n c i p) (b : MidR H f s n c i q) (h : Q (.bl true) H) : rEqD K (.ref p) (.ref q) H Q := by
  rcases a with ⟨u, a1, a2, o⟩ | ⟨u, v, a1, a2, a3, o⟩ <;> rcases b with ⟨u', b1, b2, o'⟩ | ⟨u', v', b1, b2, b3, o'⟩
  · exact x_eqSL1 a1 b1 a2 b2 h
  · exact absurd o' o
  · exact absurd o o'
  · cases hl : mdLe f s n c i
    · rw [hl] at a1 b1
      exact x_eqSL2 a1 b1 a3 a2 b3 b2 h
    · rw [hl] at a1 b1
      exact x_eqSL2 a1 b1 a2 a3 b2 b3 h
end Wm

/-! What two neighbours of a turn bear in common; ways between three faces. -/
namespace Wm
/-- how far two grounds are apart -/
def dI (a b r u v t : Int) : Int := r + 2 * max (max 0 (u - b)) (a - v) + t
theorem ow_even {a b r u v t m : Int} (w1 : a ≤ b ∧ b ≤ a + r) (w2 : u ≤ v ∧ v ≤ u + t) (r0 : 0 ≤ r) (r1 : r ≤ 1) (t0 : 0 ≤ t) (t1 : t ≤ 1) (m0 : 0 < m) (m1 : m < dI a b r u v t) (ev : (m - r) % 2 = 0) :
    dI a b r (amL a b u (m - r)) (amL a b u (m - r)) 0 = m ∧ dI (amL a b u (m - r)) (amL a b u (m - r)) 0 u v t = dI a b r u v t - m ∧ ¬ (r = 0 ∧ amL a b u (m - r) = a) ∧ ¬ (t = 0 ∧ amL a b u (m - r) = u) ∧ min a u ≤ amL a b u (m - r) ∧ amL a b u (m - r) ≤ max b v := by
  unfold amL amW
  have e : ∀ x : Int, (if amS a b u ≤ u then (1 : Int) else -1) * x = if amS a b u ≤ u then x else -x := by
    intro x; split <;> omega
  rw [e]
  unfold dI at *
  by_cases c : amS a b u ≤ u
  · simp only [if_pos c]
    unfold amS at *
    omega
  · simp only [if_neg c]
    unfold amS at *
    omega
theorem ow_odd {a b r u v t m : Int} (w1 : a ≤ b ∧ b ≤ a + r) (w2 : u ≤ v ∧ v ≤ u + t) (r0 : 0 ≤ r) (r1 : r ≤ 1) (t0 : 0 ≤ t) (t1 : t ≤ 1) (m0 : 0 < m) (m1 : m < dI a b r u v t) (ev : ¬ (m - r) % 2 = 0) :
    dI a b r (min (amL a b u (m - r)) (amL a b u (m - r) + amW a b u)) (min (amL a b u (m - r)) (amL a b u (m - r) + amW a b u) + 1) 1 = m ∧ dI (min (amL a b u (m - r)) (amL a b u (m - r) + amW a b u)) (min (amL a b u (m - r)) (amL a b u (m - r) + amW a b u) + 1) 1 u v t = dI a b r u v t - m ∧
    ¬ (r = 1 ∧ min (amL a b u (m - r)) (amL a b u (m - r) + amW a b u) = a ∧ min (amL a b u (m - r)) (amL a b u (m - r) + amW a b u) + 1 = b) ∧ ¬ (t = 1 ∧ min (amL a b u (m - r)) (amL a b u (m - r) + amW a b u) = u ∧ min (amL a b u (m - r)) (amL a b u (m - r) + amW a b u) + 1 = v) ∧
    min a u ≤ min (amL a b u (m - r)) (amL a b u (m - r) + amW a b u) ∧ min (amL a b u (m - r)) (amL a b u (m - r) + amW a b u) + 1 ≤ max b v := by
  unfold amL amW
  have e : ∀ x : Int, (if amS a b u ≤ u then (1 : Int) else -1) * x = if amS a b u ≤ u then x else -x := by
    intro x; split <;> omega
  rw [e]
  unfold dI at *
  by_cases c : amS a b u ≤ u
  · simp only [if_pos c]
    unfold amS at *
    omega
  · simp only [if_neg c]
    unfold amS at *
    omega

/-- two grounds of unlike faces -/
def neG (a b r u v t : Int) : Prop := ¬ (r = 0 ∧ t = 0 ∧ a = u) ∧ ¬ (r = 1 ∧ t = 1 ∧ a = u ∧ b = v ∧ b = a + 1)
theorem gap_cases (a b u v : Int) (h : a ≤ b) (h' : u ≤ v) : (b < u ∧ max (max 0 (u - b)) (a - v) = u - b) ∨ (v < a ∧ max (max 0 (u - b)) (a - v) = a - v) ∨ (u ≤ b ∧ a ≤ v ∧ max (max 0 (u - b)) (a - v) = 0) := by omega
theorem amL_cases {a b u T : Int} (w : a ≤ b) (w' : b ≤ a + 1) : (b ≤ u ∧ amL a b u T = b + T / 2 ∧ amW a b u = 1) ∨ (u < b ∧ u = a ∧ amL a b u T = a + T / 2 ∧ amW a b u = 1) ∨ (u < a ∧ amL a b u T = a - T / 2 ∧ amW a b u = -1) := by
  rcases (by omega : b ≤ u ∨ (u < b ∧ u = a) ∨ u < a) with h | ⟨h, h2⟩ | h
  · have e : amS a b u = b := by unfold amS; omega
    have e2 : amW a b u = 1 := by unfold amW; rw [e, if_pos h]
    refine .inl ⟨h, ?_, e2⟩
    unfold amL; rw [e, e2]; omega
  · have e : amS a b u = a := by unfold amS; omega
    have e2 : amW a b u = 1 := by unfold amW; rw [e, if_pos (by omega)]
    refine .inr (.inl ⟨h, h2, ?_, e2⟩)
    unfold amL; rw [e, e2]; omega
  · have e : amS a b u = a := by unfold amS; omega
    have e2 : amW a b u = -1 := by unfold amW; rw [e, if_neg (by omega)]
    refine .inr (.inr ⟨h, ?_, e2⟩)
    unfold amL; rw [e, e2]; omega
theorem ow_even3 {a b r u v t x y z m : Int} (w1 : a ≤ b ∧ b ≤ a + r) (w2 : u ≤ v ∧ v ≤ u + t) (w3 : x ≤ y ∧ y ≤ x + z) (r0 : 0 ≤ r) (r1 : r ≤ 1) (t0 : 0 ≤ t) (t1 : t ≤ 1) (z0 : 0 ≤ z) (z1 : z ≤ 1)
    (n1 : neG a b r u v t) (n2 : neG a b r x y z) (n3 : neG u v t x y z) (hm : 2 * m = dI a b r u v t + dI a b r x y z - dI u v t x y z) (m0 : 0 < m) (m1 : m < dI a b r u v t) (ev : (m - r) % 2 = 0) :
    dI (amL a b u (m - r)) (amL a b u (m - r)) 0 x y z = dI a b r x y z - m := by
  obtain ⟨h, hh⟩ : ∃ h, m - r = 2 * h := ⟨(m - r) / 2, by omega⟩
  have C := amL_cases (T := m - r) (u := u) w1.1 (show b ≤ a + 1 by omega)
  have hd : (m - r) / 2 = h := by omega
  rw [hd] at C
  clear hd ev
  generalize amL a b u (m - r) = L at *
  generalize amW a b u = W at *
  unfold dI neG at *
  have G1 := gap_cases a b u v w1.1 w2.1
  have G2 := gap_cases a b x y w1.1 w3.1
  have G3 := gap_cases u v x y w2.1 w3.1
  have G4 := gap_cases L L x y (Int.le_refl _) w3.1
  generalize max (max 0 (u - b)) (a - v) = g1 at *
  generalize max (max 0 (x - b)) (a - y) = g2 at *
  generalize max (max 0 (x - v)) (u - y) = g3 at *
  generalize max (max 0 (x - L)) (L - y) = g4 at *
  obtain rfl : m = 2 * h + r := by omega
  rcases C with ⟨c1, rfl, _⟩ | ⟨c1, rfl, rfl, _⟩ | ⟨c1, rfl, _⟩ <;> rcases G1 with ⟨c2, rfl⟩ | ⟨c2, rfl⟩ | ⟨c2, c3, rfl⟩ <;> try omega
  all_goals (rcases G2 with ⟨c4, rfl⟩ | ⟨c4, rfl⟩ | ⟨c4, c5, rfl⟩ <;> rcases G3 with ⟨c6, rfl⟩ | ⟨c6, rfl⟩ | ⟨c6, c7, rfl⟩ <;> try omega)
theorem ow_odd3 {a b r u v t x y z m : Int} (w1 : a ≤ b ∧ b ≤ a + r) (w2 : u ≤ v ∧ v ≤ u + t) (w3 : x ≤ y ∧ y ≤ x + z) (r0 : 0 ≤ r) (r1 : r ≤ 1) (t0 : 0 ≤ t) (t1 : t ≤ 1) (z0 : 0 ≤ z) (z1 : z ≤ 1)
    (n1 : neG a b r u v t) (n2 : neG a b r x y z) (n3 : neG u v t x y z) (hm : 2 * m = dI a b r u v t + dI a b r x y z - dI u v t x y z) (m0 : 0 < m) (m1 : m < dI a b r u v t) (ev : ¬ (m - r) % 2 = 0) :
    (z = 1 ∧ x = min (amL a b u (m - r)) (amL a b u (m - r) + amW a b u) ∧ y = x + 1 ∧ dI a b r x y z - m = 0) ∨
    (¬ (z = 1 ∧ x = min (amL a b u (m - r)) (amL a b u (m - r) + amW a b u) ∧ y = x + 1) ∧ dI (min (amL a b u (m - r)) (amL a b u (m - r) + amW a b u)) (min (amL a b u (m - r)) (amL a b u (m - r) + amW a b u) + 1) 1 x y z = dI a b r x y z - m) := by
  obtain ⟨h, hh⟩ : ∃ h, m - r = 2 * h + 1 := ⟨(m - r) / 2, by omega⟩
  have C := amL_cases (T := m - r) (u := u) w1.1 (show b ≤ a + 1 by omega)
  have hd : (m - r) / 2 = h := by omega
  rw [hd] at C
  clear hd ev
  obtain ⟨q, hq⟩ : ∃ q, q = min (amL a b u (m - r)) (amL a b u (m - r) + amW a b u) := ⟨_, rfl⟩
  rw [← hq]
  have C' : (b ≤ u ∧ q = b + h) ∨ (u < b ∧ u = a ∧ q = a + h) ∨ (u < a ∧ q = a - h - 1) := by omega
  clear C hq
  generalize amL a b u (m - r) = L at *
  generalize amW a b u = W at *
  unfold dI neG at *
  have G1 := gap_cases a b u v w1.1 w2.1
  have G2 := gap_cases a b x y w1.1 w3.1
  have G3 := gap_cases u v x y w2.1 w3.1
  have G4 := gap_cases q (q + 1) x y (by omega) w3.1
  generalize max (max 0 (u - b)) (a - v) = g1 at *
  generalize max (max 0 (x - b)) (a - y) = g2 at *
  generalize max (max 0 (x - v)) (u - y) = g3 at *
  generalize max (max 0 (x - (q + 1))) (q - y) = g4 at *
  obtain rfl : m = 2 * h + 1 + r := by omega
  rcases C' with ⟨c1, rfl⟩ | ⟨c1, rfl, rfl⟩ | ⟨c1, rfl⟩ <;> rcases G1 with ⟨c2, rfl⟩ | ⟨c2, rfl⟩ | ⟨c2, c3, rfl⟩ <;> try omega
  all_goals (rcases G2 with ⟨c4, rfl⟩ | ⟨c4, rfl⟩ | ⟨c4, c5, rfl⟩ <;> rcases G3 with ⟨c6, rfl⟩ | ⟨c6, rfl⟩ | ⟨c6, c7, rfl⟩ <;> try omega)

theorem bn_rng {f s u : Int} (hf : 1 ≤ f) (hs : 0 ≤ s) (hu : 0 ≤ u) (nu : ¬ tOf f s u = 0) : ∃ t l, u = Bg f s (t + 1) + l ∧ 0 ≤ t ∧ 0 ≤ l ∧ l < f + t * s + s ∧ tOf f s u = t + 1 ∧ bnL f s u = Bg f s t + l * (f + t * s) / (f + t * s + s) ∧ bnH f s u = Bg f s t + ((l + 1) * (f + t * s) - 1) / (f + t * s + s) ∧
    0 ≤ l * (f + t * s) / (f + t * s + s) ∧ ((l + 1) * (f + t * s) - 1) / (f + t * s + s) < f + t * s := by
  obtain ⟨t, l, e, t0, l0, l1⟩ := cell_tl hf hs hu
  obtain ⟨e1, e2, e3⟩ := where_at hf hs t0 l0 l1
  rw [← e] at e1
  obtain ⟨u', rfl⟩ : ∃ u, t = u + 1 := ⟨t - 1, by omega⟩
  have u0 : 0 ≤ u' := by omega
  have ez : f + (u' + 1) * s = f + u' * s + s := by grind
  have us := mul_nn u0 hs
  rw [ez] at l1
  obtain ⟨_, n2, n3⟩ := bn_at hf hs u0 l0 l1
  rw [← e] at n2 n3
  have hz : 0 < f + u' * s + s := by omega
  have ha : 0 < f + u' * s := by omega
  have lm : 0 ≤ l * (f + u' * s) := mul_nn l0 (by omega)
  have e5 : (l + 1) * (f + u' * s) = l * (f + u' * s) + (f + u' * s) := by grind
  have q0 : 0 ≤ l * (f + u' * s) / (f + u' * s + s) := Int.ediv_nonneg lm (by omega)
  have q1 : ((l + 1) * (f + u' * s) - 1) / (f + u' * s + s) < f + u' * s := by
    apply Int.ediv_lt_of_lt_mul hz
    have := Int.mul_le_mul_of_nonneg_right (show l + 1 ≤ f + u' * s + s by omega) (show 0 ≤ f + u' * s by omega)
    have e6 : (f + u' * s) * (f + u' * s + s) = (f + u' * s + s) * (f + u' * s) := Int.mul_comm _ _
    omega
  exact ⟨u', l, e, u0, l0, l1, e1, n2, n3, q0, q1⟩
theorem touch_iff {f s u x : Int} (hf : 1 ≤ f) (hs : 0 ≤ s) (hu : 0 ≤ u) (nu : ¬ tOf f s u = 0) (hx : 0 ≤ x) : (bnL f s u ≤ x ∧ x ≤ bnH f s u) ↔ (abL f s x ≤ u ∧ u ≤ abH f s x) := by
  obtain ⟨t, l, e, t0, l0, l1, e1, n2, n3, q0, q1⟩ := bn_rng hf hs hu nu
  obtain ⟨t', k, e', t0', k0, k1⟩ := cell_tl hf hs hx
  obtain ⟨aL, aH⟩ := ab_at hf hs t0' k0 k1
  rw [← e'] at aL aH
  have ts := mul_nn t0 hs
  have ts' := mul_nn t0' hs
  obtain ⟨o0, o1, o2, _⟩ := over_facts k0 k1 (show f + t' * s ≤ f + t' * s + s by omega)
  have b1 := bg_succ f s t
  have b2 := bg_succ f s t'
  have b3 := bg_succ f s (t' + 1)
  have b4 := bg_succ f s (t + 1)
  have ez : f + (t + 1) * s = f + t * s + s := by grind
  have ez' : f + (t' + 1) * s = f + t' * s + s := by grind
  rw [ez] at b4
  rw [ez'] at b3
  rcases (by omega : t' = t ∨ t' + 1 ≤ t ∨ t + 1 ≤ t') with h | h | h
  · subst h
    have M1 := meet_lo (u := l) (z := f + t' * s + s) (l := k) (e := f + t' * s) (by omega) (by omega)
    have M2 := meet_hi (u := l) (z := f + t' * s + s) (l := k) (e := f + t' * s) (by omega) (by omega)
    rw [n2, n3, aL, aH]
    have ee : bnL f s u = bnL f s u := rfl
    constructor
    · rintro ⟨x1, x2⟩
      have := M2.mpr (M1.mp ⟨by omega, by omega⟩)
      omega
    · rintro ⟨x1, x2⟩
      have := M1.mpr (M2.mp ⟨by omega, by omega⟩)
      omega
  · have m1 := bg_mono hf hs (show 0 ≤ t' + 1 by omega) h
    have m2 := bg_mono hf hs (show 0 ≤ t' + 1 + 1 by omega) (show t' + 1 + 1 ≤ t + 1 by omega)
    constructor
    · rintro ⟨x1, x2⟩; omega
    · rintro ⟨x1, x2⟩; omega
  · have m1 := bg_mono hf hs (show 0 ≤ t + 1 by omega) h
    have m2 := bg_mono hf hs (show 0 ≤ t + 1 + 1 by omega) (show t + 1 + 1 ≤ t' + 1 by omega)
    constructor
    · rintro ⟨x1, x2⟩; omega
    · rintro ⟨x1, x2⟩; omega
/-- two neighbours of a turn -/
theorem ab_step {f s t l : Int} (hf : 1 ≤ f) (hs : 0 ≤ s) (ht : 0 ≤ t) (l0 : 0 ≤ l) (l1 : l + 1 < f + t * s) :
    abH f s (Bg f s t + l) ≤ abL f s (Bg f s t + l + 1) ∧ abL f s (Bg f s t + l + 1) ≤ abH f s (Bg f s t + l) + 1 ∧ (¬ gcdI f s = 0 → ¬ (l + 1).fmod ((f + t * s) / gcdI f s) = 0 → abL f s (Bg f s t + l + 1) = abH f s (Bg f s t + l)) := by
  have ts := mul_nn ht hs
  obtain ⟨aL, aH⟩ := ab_at hf hs ht l0 (show l < f + t * s by omega)
  obtain ⟨aL2, aH2⟩ := ab_at hf hs ht (show 0 ≤ l + 1 by omega) l1
  have e : Bg f s t + l + 1 = Bg f s t + (l + 1) := by omega
  have O := over_step (x := l + 1) hf hs ht
  rw [e, aH, aL2]
  refine ⟨?_, ?_, fun _ h => ?_⟩
  · split at O <;> omega
  · split at O <;> omega
  · rw [decide_eq_false h] at O
    simp only [Bool.false_eq_true, if_false] at O
    omega
theorem up_unique {f s c d : Int} (hf : 1 ≤ f) (hs : 0 ≤ s) (c0 : 0 ≤ c) (nc : ¬ tOf f s c = 0) (d0 : 0 ≤ d) (nd : ¬ tOf f s d = 0) (h1 : bnL f s c = bnL f s d) (h2 : bnH f s c = bnH f s d) (h3 : bnH f s c = bnL f s c + 1) : c = d := by
  obtain ⟨t, l, e, t0, l0, l1, e1, n2, n3, q0, q1⟩ := bn_rng hf hs c0 nc
  have bb := bg_ge hf hs t0
  have S := (ab_step (l := bnL f s c - Bg f s t) hf hs t0 (by omega) (by omega)).1
  have e2 : Bg f s t + (bnL f s c - Bg f s t) = bnL f s c := by omega
  rw [e2] at S
  have A1 := (touch_iff (x := bnL f s c) hf hs c0 nc (by omega)).mp ⟨Int.le_refl _, by omega⟩
  have A2 := (touch_iff (x := bnL f s c + 1) hf hs c0 nc (by omega)).mp ⟨by omega, by omega⟩
  have B1 := (touch_iff (x := bnL f s c) hf hs d0 nd (by omega)).mp ⟨by omega, by omega⟩
  have B2 := (touch_iff (x := bnL f s c + 1) hf hs d0 nd (by omega)).mp ⟨by omega, by omega⟩
  omega
/-- the grounds of unlike faces -/
theorem face_ne {f s n c d : Int} {i j : Bool} (hf : 1 ≤ f) (hs : 0 ≤ s) (c0 : 0 ≤ c) (d0 : 0 ≤ d) (h1 : ¬ gNo f s n c i) (h2 : ¬ gNo f s n d j) (ne : ¬ (c = d ∧ i = j)) : neG (gL f s c i) (gH f s c i) (rsI i) (gL f s d j) (gH f s d j) (rsI j) := by
  cases i <;> cases j
  · refine ⟨fun ⟨_, _, h⟩ => ne ⟨h, rfl⟩, fun ⟨h, _⟩ => ?_⟩
    exact absurd h (by decide)
  · exact ⟨fun ⟨_, h, _⟩ => absurd h (by decide), fun ⟨h, _⟩ => absurd h (by decide)⟩
  · exact ⟨fun ⟨h, _⟩ => absurd h (by decide), fun ⟨_, h, _⟩ => absurd h (by decide)⟩
  · refine ⟨fun ⟨h, _⟩ => absurd h (by decide), fun ⟨_, _, a, b, e⟩ => ne ⟨?_, rfl⟩⟩
    unfold gNo at h1 h2
    simp at h1 h2
    exact up_unique hf hs c0 h1 d0 h2 a b e
theorem ap_dI {f s c d : Int} {i j : Bool} (ne : ¬ (c = d ∧ i = j)) : apI f s c i d j = dI (gL f s c i) (gH f s c i) (rsI i) (gL f s d j) (gH f s d j) (rsI j) := by
  unfold apI dI; rw [if_neg ne]
/-- a face between two neighbours of a piece -/
theorem link {f s n c : Int} {i : Bool} (hf : 1 ≤ f) (hs : 0 ≤ s) (hc : 0 ≤ c) (h1 : c < n) (z : ¬ gNo f s n c i) {x : Int} (x1 : pLo f s (gL f s c i) ≤ x) (x2 : x + 1 ≤ bnH f s (pLa f s n (gL f s c i))) :
    abH f s x = abL f s (x + 1) ∧ 0 ≤ abL f s (x + 1) ∧ abL f s (x + 1) < n ∧ ¬ gNo f s n (abL f s (x + 1)) true ∧ bnL f s (abL f s (x + 1)) = x ∧ bnH f s (abL f s (x + 1)) = x + 1 ∧ hang f s n c i (abL f s (x + 1)) true := by
  obtain ⟨U, L⟩ := hang_piece hf hs hc h1 z
  obtain ⟨y0, y1, y2, y3⟩ := L (x + 1) (by omega) x2
  obtain ⟨v0, v1, v2, v3⟩ := L x x1 (by omega)
  obtain ⟨g0, g1, g2⟩ := gL_nn hf hs hc h1 z
  obtain ⟨m0, w1, w2, b0, b1, b2, b3, b4, b5, b6, b7, b8, b9⟩ := piece_facts hf hs g0 g2
  obtain ⟨u0, u1, u2, u3, u4⟩ := U _ b1 (Int.le_refl _)
  have nz : ¬ tOf f s (pLa f s n (gL f s c i)) = 0 := by have := tOf_nn hf hs g0; omega
  obtain ⟨t, l, e, t0, l0, l1, e1, n2, n3, q0, q1⟩ := bn_rng hf hs u0 nz
  have et : tOf f s (gL f s c i) = t := by omega
  have bb := bg_ge hf hs t0
  have ts := mul_nn t0 hs
  have gg := gcdI_pos (s := s) hf
  -- the sector's part
  have eA : siz f s (gL f s c i) / gcdI f s = (f + t * s) / gcdI f s := by unfold siz; rw [et]
  have eLo : pLo f s (gL f s c i) = Bg f s t + secN f s (gL f s c i) * ((f + t * s) / gcdI f s) := by unfold pLo; rw [et, eA]
  have ePr : prt f s (gL f s c i) = (f + t * s + s) / gcdI f s := by
    unfold prt; rw [et]
    have ez : f + (t + 1) * s = f + t * s + s := by grind
    rw [ez]
  have eFi : pFi f s (gL f s c i) = Bg f s (t + 1) + secN f s (gL f s c i) * ((f + t * s + s) / gcdI f s) := by unfold pFi; rw [et, ePr]
  have la : pLa f s n (gL f s c i) = min (pFi f s (gL f s c i) + prt f s (gL f s c i)) n - 1 := rfl
  have B := bn_sec (x := l) hf hs t0 l0 l1 m0 (by rw [e] at b1; omega) (by rw [ePr] at la; omega)
  rw [← e] at B
  obtain ⟨B1, B2, B3, B4, B5, B6, B7⟩ := B
  rw [eA] at w1 b9
  have hsec : (secN f s (gL f s c i) + 1) * ((f + t * s) / gcdI f s) = secN f s (gL f s c i) * ((f + t * s) / gcdI f s) + (f + t * s) / gcdI f s := by grind
  have mle : (secN f s (gL f s c i) + 1) * ((f + t * s) / gcdI f s) ≤ gcdI f s * ((f + t * s) / gcdI f s) := Int.mul_le_mul_of_nonneg_right b7 (by omega)
  have sz : gcdI f s * ((f + t * s) / gcdI f s) = f + t * s := by
    rw [b9]; unfold siz; rw [et]
  have mw := mul_nn m0 (show 0 ≤ (f + t * s) / gcdI f s by omega)
  have nm : ¬ (x - Bg f s t + 1).fmod ((f + t * s) / gcdI f s) = 0 := by
    rw [fmod_zero w1]
    rintro ⟨k, hk⟩
    generalize (f + t * s) / gcdI f s = w at *
    generalize secN f s (gL f s c i) = m at *
    have k1 : m * w < w * k := by omega
    have k2 : w * k < (m + 1) * w := by omega
    have c1 : w * m = m * w := Int.mul_comm _ _
    have c2 : w * (m + 1) = (m + 1) * w := Int.mul_comm _ _
    have k3 : m < k := Int.lt_of_mul_lt_mul_left (a := w) (by omega) (by omega)
    have k4 : k < m + 1 := Int.lt_of_mul_lt_mul_left (a := w) (by omega) (by omega)
    omega
  have S := ab_step (l := x - Bg f s t) hf hs t0 (by omega) (by omega)
  have e2 : Bg f s t + (x - Bg f s t) = x := by omega
  rw [e2] at S
  have S3 := S.2.2 (by omega) nm
  have y2' : abL f s (x + 1) < n := by unfold gNo at y2; simp at y2; omega
  have ab1 := (ab_next hf hs y0).2.2
  have nzu : ¬ tOf f s (abL f s (x + 1)) = 0 := by
    obtain ⟨o0, o1, o2, _⟩ := over_facts (l := x + 1 - Bg f s t) (z := f + t * s) (m := f + t * s + s) (by omega) (by omega) (by omega)
    have aa := (ab_at (l := x + 1 - Bg f s t) hf hs t0 (by omega) (by omega)).1
    have e3 : Bg f s t + (x + 1 - Bg f s t) = x + 1 := by omega
    rw [e3] at aa
    have ez : f + (t + 1) * s = f + t * s + s := by grind
    have w := (where_at (t := t + 1) (l := (x + 1 - Bg f s t) * (f + t * s + s) / (f + t * s)) hf hs (by omega) o0 (by rw [ez]; omega)).1
    rw [← aa] at w
    omega
  have T1 := (touch_iff (u := abL f s (x + 1)) (x := x) hf hs (by omega) nzu v0).mpr ⟨by have := (ab_next hf hs v0).1; omega, by omega⟩
  have T2 := (touch_iff (u := abL f s (x + 1)) (x := x + 1) hf hs (by omega) nzu y0).mpr ⟨Int.le_refl _, by
    obtain ⟨o0, o1, o2, _⟩ := over_facts (l := x + 1 - Bg f s t) (z := f + t * s) (m := f + t * s + s) (by omega) (by omega) (by omega)
    obtain ⟨aa, ah⟩ := ab_at (l := x + 1 - Bg f s t) hf hs t0 (by omega) (by omega)
    have e3 : Bg f s t + (x + 1 - Bg f s t) = x + 1 := by omega
    rw [e3] at aa ah
    omega⟩
  have W := bn_wide hf hs (show 0 ≤ abL f s (x + 1) by omega) nzu
  have ng : ¬ gNo f s n (abL f s (x + 1)) true := by unfold gNo; simp; exact nzu
  have eb : bnL f s (abL f s (x + 1)) = x := by omega
  have eh : bnH f s (abL f s (x + 1)) = x + 1 := by omega
  refine ⟨S3.symm, by omega, y2', ng, eb, eh, ?_⟩
  have tx : tOf f s x = t := tOf_eq hf hs t0 (by omega) (by omega) v0
  have sx : secN f s x = secN f s (gL f s c i) := by
    have := sec_at (y := x - Bg f s t) (m := secN f s (gL f s c i)) hf hs t0 (by omega) (by omega) (by omega) (by omega)
    rwa [e2] at this
  have ea : gL f s (abL f s (x + 1)) true = x := eb
  exact hang_of z ng (by rw [ea, tx, et]) (by rw [ea, sx]) (siz_of (by rw [ea, tx, et]))
end Wm

/-! Comprehensions; chains of three comparisons; lists of faces. -/
namespace Wm
open PySem PySem.Spec PyProof.Rows L2
/-! ### chains -/
def chJ (f : Hp → Prop) (Q : VK) (z : V) (H : Hp) : Prop := ∃ k, z = .bl k ∧ if k = true then f H else Q (.bl false) H
def tChain3 (r r' r'' : R2) (ta tb tc td : TE) : TE := fun σ H Q => ta σ H fun x H1 => tb σ H1 fun y H2 => r x y H2 fun z H3 =>
  chJ (fun H3 => tc σ H3 fun w' H4 => r' y w' H4 fun z' H5 => chJ (fun H5 => td σ H5 fun u' H6 => r'' w' u' H6 Q) Q z' H5) Q z H3
section
variable {X : Cx} {pos : Pos} {a b c d : Expr} {ta tb tc td : TE}
theorem pt_chain3 {op op' op'' : CmpOp} {r r' r'' : R2} (ho : OpR X (compareOp op) r) (ho' : OpR X (compareOp op') r') (ho'' : OpR X (compareOp op'') r'') (ha : PE X a ta) (hb : PE X b tb) (hc : PE X c tc) (hd : PE X d td)
    (hm : lastMarks [op, op', op''] [b, c, d] = false := by with_unfolding_all rfl) : PT X (.Compare a [op, op', op''] [b, c, d] pos) (tTest (tChain3 r r' r'' ta tb tc td)) := by
  refine ⟨fun pins s σ H Q I h => ?_⟩
  refine isTrue_chain (thn (ha.run pins s σ H _ I h) fun v s1 ⟨x, H1, I1, r1, q1⟩ => test_link (thn (hb.run pins s1 σ H1 _ I1 q1) fun u s2 ⟨y, H2, I2, r2, q2⟩ =>
    thn (ho pins s2 σ H2 x y v u _ I2 r1 r2 q2) fun d s3 ⟨z, H3, I3, r3, k, e, q3⟩ => ?_)) hm
  subst e
  cases r3
  refine wpAny_truthy_bool ?_
  cases k with
  | false =>
    obtain ⟨k', e', q'⟩ := q3
    cases e'
    exact ite_ff ⟨H3, I3, q'⟩
  | true =>
    refine ite_tt (test_link (thn (hc.run pins s3 σ H3 _ I3 q3) fun w' s4 ⟨z', H4, I4, r4, q4⟩ => thn (ho' pins s4 σ H4 y z' u w' _ I4 r2 r4 q4) fun d' s5 ⟨z2, H5, I5, r5, k2, e2, q5⟩ => ?_))
    subst e2
    cases r5
    refine wpAny_truthy_bool ?_
    cases k2 with
    | false =>
      obtain ⟨k', e', q'⟩ := q5
      cases e'
      exact ite_ff ⟨H5, I5, q'⟩
    | true =>
      refine ite_tt (test_last (thn (hd.run pins s5 σ H5 _ I5 q5) fun w5 s6 ⟨z5, H6, I6, r6, q6⟩ => thn (ho'' pins s6 σ H6 z' z5 w' w5 _ I6 r4 r6 q6) fun d6 s7 ⟨z7, H7, I7, r7, k7, e7, q7⟩ => ?_))
      subst e7
      cases r7
      exact wpAny_truthy_bool ⟨H7, I7, q7⟩
end
section
variable {K : PySem.W.Frag} {σ : L2.St} {H : Hp} {Q : VK} {ta tb tc td : TE} {r r' r'' : R2} {p : Addr} {xs : List V} {g : TG} {tt : TT} {te : TE} {vs : List Nat}
theorem x_chain3 (h : ta σ H fun x H1 => tb σ H1 fun y H2 => r x y H2 fun z H3 => chJ (fun H3 => tc σ H3 fun w' H4 => r' y w' H4 fun z' H5 => chJ (fun H5 => td σ H5 fun u' H6 => r'' w' u' H6 Q) Q z' H5) Q z H3) : tChain3 r r' r'' ta tb tc td σ H Q := h
theorem x_chJ {f : Hp → Prop} {k : Bool} (h : if k = true then f H else Q (.bl false) H) : chJ f Q (.bl k) H := ⟨k, rfl, h⟩
/-! ### the rules that speak of K, for within a comprehension's block -/
theorem room65 {k : Nat} {A : Around} (r : Room k A) : A.units + 65 < cLine := by have := r.un; omega
section
variable {X : Cx} {K : PySem.W.Frag}
theorem op_eqDK (e : X.K = K) (hu : X.A.units + 64 < cLine) : OpR X (compareOp .Eq) (rEqD K) := by subst e; exact op_eqD hu
theorem op_neDK (e : X.K = K) (hu : X.A.units + 64 < cLine) : OpR X (compareOp .NotEq) (rNeD K) := by subst e; exact op_neD hu
theorem op_inDK (e : X.K = K) (hu : X.A.units + 65 < cLine) : OpR X (compareOp .In) (rInD K) := by subst e; exact op_inD hu
theorem op_notInDK (e : X.K = K) (hu : X.A.units + 65 < cLine) : OpR X (compareOp .NotIn) (rNotInD K) := by subst e; exact op_notInD hu
theorem ix_listK (e : X.K = K) : IxR X (rIxL K) := by subst e; exact ix_list
theorem ix_tupK (e : X.K = K) : IxR X (rIxT K) := by subst e; exact ix_tup
theorem cl_lenK (e : X.K = K) : CallR X (.builtin "len") (rLn K) := by subst e; exact cl_len
theorem pg_tupK {es : List Expr} {k : Nat} {n : Nat} {p : Pos} {t : TGs} (e : X.K = K) (h : PG X (.Tuple es k p) (gTup X.K n t)) : PG X (.Tuple es k p) (gTup K n t) := by subst e; exact h
end
/-! ### comprehensions -/
/-- what is asked of a comprehension over J -/
def lcJ (J : It) (g : TG) (tt : TT) (te : TE) (vs : List Nat) (σ : L2.St) (Q : VK) (H1 : Hp) : Prop := ∀ D, H1 D = none → ∃ W : Nat → Nat → Hp → Prop, (∃ m, W 0 m (upd H1 D (.lst []))) ∧ ∀ i m H, W i m H →
  (J.stop i H ∧ Q (.ref D) H) ∨ (J.go i H ∧ ∃ Nx : Hp → Prop, (∀ H', Nx H' → ∃ m', m' < m ∧ W (i + 1) m' H') ∧ ∀ x H', J.yld i H x H' → g x (wipe σ vs) H' fun σ2 H2 => wipe σ2 vs = wipe σ vs ∧ tt σ2 H2 fun b H3 =>
    if b = true then te σ2 H3 fun y H4 => ∃ acc, H4 D = some (.lst acc) ∧ acc.length < sizeLine ∧ Nx (upd H4 D (.lst (acc ++ [y]))) else Nx H3)
def lcK (K : PySem.W.Frag) (g : TG) (tt : TT) (te : TE) (vs : List Nat) (σ : L2.St) (Q : VK) (x : V) (H : Hp) : Prop := ∃ a, x = .ref a ∧ (∃ xs, SqL K H a xs) ∧ lcJ (Itl K a) g tt te vs σ Q H
theorem x_lc {tl : TE} (h : tl σ H fun x H1 => lcK K g tt te vs σ Q x H1) : tLc (iList K tl) g tt te vs σ H Q := h
def lcT (K : PySem.W.Frag) (g : TG) (tt : TT) (te : TE) (vs : List Nat) (σ : L2.St) (Q : VK) (x : V) (H : Hp) : Prop := ∃ a, x = .ref a ∧ (∃ xs, SqT K H a xs) ∧ lcJ (Itt K a) g tt te vs σ Q H
theorem x_lcTup {tl : TE} (h : tl σ H fun x H1 => lcT K g tt te vs σ Q x H1) : tLc (iTup K tl) g tt te vs σ H Q := h
theorem x_lcW {tA : TA} (h : tA σ H fun ws H1 => asRW (fun J H => lcJ J g tt te vs σ Q H) ws H1) : tLc (iRngW tA) g tt te vs σ H Q := h
theorem x_lc1 {tA : TA} (h : tA σ H fun ws H1 => asR1 (fun J H => lcJ J g tt te vs σ Q H) ws H1) : tLc (iRng1 tA) g tt te vs σ H Q := h
theorem sizeLine_1000 {n : Nat} (h : n ≤ 1000) : n < sizeLine := Nat.lt_of_le_of_lt h (by decide)
def lcN (D : Addr) (j : Nat) (I : Nat → List V → Hp → Prop) (H : Hp) : Prop := ∃ acc, acc.length ≤ j ∧ H D = some (.lst acc) ∧ I j acc H
def lcA (D : Addr) (i : Nat) (I : Nat → List V → Hp → Prop) (y : V) (H : Hp) : Prop := ∃ acc, H D = some (.lst acc) ∧ acc.length < sizeLine ∧ lcN D (i + 1) I (upd H D (.lst (acc ++ [y])))
theorem x_lcN {D : Addr} {j i : Nat} {I : Nat → List V → Hp → Prop} {acc : List V} (e : H D = some (.lst acc)) (l : acc.length ≤ i) (hj : i ≤ j) (h : I j acc H) : lcN D j I H := ⟨acc, Nat.le_trans l hj, e, h⟩
theorem x_lcA {D : Addr} {i : Nat} {I : Nat → List V → Hp → Prop} {acc : List V} {y : V} (e : H D = some (.lst acc)) (l : acc.length ≤ i) (hi : i ≤ 1000) (h : I (i + 1) (acc ++ [y]) (upd H D (.lst (acc ++ [y])))) : lcA D i I y H :=
  ⟨acc, e, sizeLine_1000 (Nat.le_trans l hi), acc ++ [y], by simp; exact l, upd_same, h⟩
theorem x_lcL {σ0 : L2.St} (hw : wipe σ vs = σ0) (e : H p = some (.lst xs)) (l : xs.length ≤ 1000) (I : Nat → List V → Hp → Prop)
    (h0 : ∀ D, H D = none → I 0 [] (upd H D (.lst []))) (hl : ∀ i acc H', I i acc H' → H' p = some (.lst xs))
    (hs : ∀ D i x acc H', H D = none → i < xs.length → xs[i]? = some x → I i acc H' → H' D = some (.lst acc) → acc.length ≤ i → i ≤ 1000 → g x σ0 H' fun σ2 H2 => wipe σ2 vs = σ0 ∧ tt σ2 H2 fun b H3 =>
      if b = true then te σ2 H3 fun y H4 => lcA D i I y H4 else lcN D (i + 1) I H3)
    (hd : ∀ D acc H', H D = none → H' D = some (.lst acc) → I xs.length acc H' → Q (.ref D) H') : lcK K g tt te vs σ Q (.ref p) H := by
  subst hw
  refine ⟨p, rfl, ⟨_, sql e⟩, fun D hD => ?_⟩
  refine ⟨fun i m H' => m = xs.length - i ∧ i ≤ xs.length ∧ lcN D i I H', ⟨xs.length, by simp, Nat.zero_le _, [], by simp, upd_same, h0 D hD⟩, ?_⟩
  rintro i m H' ⟨rfl, hi, acc, la, ea, q⟩
  have el := hl i acc H' q
  by_cases hlt : i < xs.length
  · refine .inr ⟨⟨xs, xs[i], sql el, by simp [hlt]⟩, lcN D (i + 1) I, fun H2 p' => ⟨xs.length - (i + 1), by omega, rfl, hlt, p'⟩, fun x H2 y => ?_⟩
    obtain ⟨rfl, y⟩ := y
    exact hs D i x acc _ hD hlt (y xs (sql el)) q ea la (by omega)
  · have e2 : i = xs.length := by omega
    subst e2
    exact .inl ⟨⟨xs, sql el, Nat.le_refl _⟩, hd D acc H' hD ea q⟩
theorem x_lcT {σ0 : L2.St} (hw : wipe σ vs = σ0) (e : H p = some (.tup xs)) (l : xs.length ≤ 1000) (I : Nat → List V → Hp → Prop)
    (h0 : ∀ D, H D = none → I 0 [] (upd H D (.lst []))) (hl : ∀ i acc H', I i acc H' → H' p = some (.tup xs))
    (hs : ∀ D i x acc H', H D = none → i < xs.length → xs[i]? = some x → I i acc H' → H' D = some (.lst acc) → acc.length ≤ i → i ≤ 1000 → g x σ0 H' fun σ2 H2 => wipe σ2 vs = σ0 ∧ tt σ2 H2 fun b H3 =>
      if b = true then te σ2 H3 fun y H4 => lcA D i I y H4 else lcN D (i + 1) I H3)
    (hd : ∀ D acc H', H D = none → H' D = some (.lst acc) → I xs.length acc H' → Q (.ref D) H') : lcT K g tt te vs σ Q (.ref p) H := by
  subst hw
  refine ⟨p, rfl, ⟨_, .inl (.inl e)⟩, fun D hD => ?_⟩
  refine ⟨fun i m H' => m = xs.length - i ∧ i ≤ xs.length ∧ lcN D i I H', ⟨xs.length, by simp, Nat.zero_le _, [], by simp, upd_same, h0 D hD⟩, ?_⟩
  rintro i m H' ⟨rfl, hi, acc, la, ea, q⟩
  have el := hl i acc H' q
  by_cases hlt : i < xs.length
  · refine .inr ⟨⟨xs, xs[i], .inl (.inl el), by simp [hlt]⟩, lcN D (i + 1) I, fun H2 p' => ⟨xs.length - (i + 1), by omega, rfl, hlt, p'⟩, fun x H2 y => ?_⟩
    obtain ⟨rfl, y⟩ := y
    exact hs D i x acc _ hD hlt (y xs (.inl (.inl el))) q ea la (by omega)
  · have e2 : i = xs.length := by omega
    subst e2
    exact .inl ⟨⟨xs, .inl (.inl el), Nat.le_refl _⟩, hd D acc H' hD ea q⟩
theorem x_lcR {σ0 : L2.St} {lo : Int} {n : Nat} (hw : wipe σ vs = σ0) (l : n ≤ 1000) (I : Nat → List V → Hp → Prop)
    (h0 : ∀ D, H D = none → I 0 [] (upd H D (.lst [])))
    (hs : ∀ D i acc H', H D = none → i < n → I i acc H' → H' D = some (.lst acc) → acc.length ≤ i → i ≤ 1000 → g (.int (lo + i)) σ0 H' fun σ2 H2 => wipe σ2 vs = σ0 ∧ tt σ2 H2 fun b H3 =>
      if b = true then te σ2 H3 fun y H4 => lcA D i I y H4 else lcN D (i + 1) I H3)
    (hd : ∀ D acc H', H D = none → H' D = some (.lst acc) → I n acc H' → Q (.ref D) H') : lcJ (Itr lo n) g tt te vs σ Q H := by
  subst hw
  refine fun D hD => ⟨fun i m H' => m = n - i ∧ i ≤ n ∧ lcN D i I H', ⟨n, by simp, Nat.zero_le _, [], by simp, upd_same, h0 D hD⟩, ?_⟩
  rintro i m H' ⟨rfl, hi, acc, la, ea, q⟩
  by_cases hlt : i < n
  · refine .inr ⟨hlt, lcN D (i + 1) I, fun H2 p' => ⟨n - (i + 1), by omega, rfl, hlt, p'⟩, fun x H2 y => ?_⟩
    obtain ⟨rfl, y⟩ := y
    subst y
    exact hs D i acc _ hD hlt q ea la (by omega)
  · have e2 : i = n := by omega
    subst e2
    exact .inl ⟨Nat.le_refl _, hd D acc H' hD ea q⟩
theorem x_yes {R : Bool → Hp → Prop} (h : R true H) : tYes σ H R := h
theorem x_wp {A : Prop} {σ2 σ0 : L2.St} (e : wipe σ2 vs = σ0) (h : A) : wipe σ2 vs = σ0 ∧ A := ⟨e, h⟩
/-! ### a new list, filled while the rest stands -/
theorem sameD {H0 H4 : Hp} {D : Addr} {o : HO} (hD : H0 D = none) (s : Same H0 H4) : Same H0 (upd H4 D o) := fun b o' e => by
  rw [upd_ne (ne_of_none e hD)]; exact s _ _ e
theorem butD {a : Addr} {H0 H4 : Hp} {D : Addr} {o : HO} (hD : H0 D = none) (s : But a H0 H4) : But a H0 (upd H4 D o) := fun b o' n e => by
  rw [upd_ne (ne_of_none e hD)]; exact s _ _ n e
/-- a list of faces of one side -/
def FcL (H : Hp) (i : Bool) : List V → List Int → Prop
  | [], [] => True
  | v :: vs, c :: cs => (∃ r, v = .ref r ∧ Fc H r c i) ∧ FcL H i vs cs
  | _, _ => False
theorem FcL.same {H' : Hp} {i : Bool} (s : Same H H') : ∀ {vs : List V} {cs : List Int}, FcL H i vs cs → FcL H' i vs cs
  | [], [], h => h
  | _ :: _, _ :: _, ⟨⟨r, e, h⟩, t⟩ => ⟨⟨r, e, s _ _ h⟩, FcL.same s t⟩
  | [], _ :: _, h => h.elim
  | _ :: _, [], h => h.elim
theorem FcL.set {D : Addr} {i : Bool} {ys zs : List V} (e : H D = some (.lst ys)) : ∀ {vs : List V} {cs : List Int}, FcL H i vs cs → FcL (upd H D (.lst zs)) i vs cs
  | [], [], h => h
  | _ :: _, _ :: _, ⟨⟨r, e1, h⟩, t⟩ => ⟨⟨r, e1, by show (upd H D (.lst zs)) r = _; rw [upd_ne (ne_of h e (by intro z; cases z))]; exact h⟩, FcL.set e t⟩
  | [], _ :: _, h => h.elim
  | _ :: _, [], h => h.elim
theorem FcL.app {i : Bool} {r : Addr} {c : Int} : ∀ {vs : List V} {cs : List Int}, FcL H i vs cs → Fc H r c i → FcL H i (vs ++ [.ref r]) (cs ++ [c])
  | [], [], _, h => ⟨⟨r, rfl, h⟩, trivial⟩
  | _ :: _, _ :: _, ⟨a, t⟩, h => ⟨a, FcL.app t h⟩
  | [], _ :: _, h, _ => h.elim
  | _ :: _, [], h, _ => h.elim
theorem FcL.len {i : Bool} : ∀ {vs : List V} {cs : List Int}, FcL H i vs cs → vs.length = cs.length
  | [], [], _ => rfl
  | _ :: _, _ :: _, ⟨_, t⟩ => congrArg (· + 1) (FcL.len t)
  | [], _ :: _, h => h.elim
  | _ :: _, [], h => h.elim
theorem FcL.at {i : Bool} : ∀ {vs : List V} {cs : List Int} {k : Nat} {x : V}, FcL H i vs cs → vs[k]? = some x → ∃ r c, x = .ref r ∧ cs[k]? = some c ∧ Fc H r c i
  | _ :: _, _ :: _, 0, _, ⟨⟨r, e, h⟩, _⟩, hx => by
    simp only [List.getElem?_cons_zero, Option.some.injEq] at hx
    subst hx
    exact ⟨r, _, e, by simp, h⟩
  | _ :: _, _ :: _, k + 1, _, ⟨_, t⟩, hx => by
    simp only [List.getElem?_cons_succ] at hx
    obtain ⟨r, c, e, h1, h2⟩ := FcL.at t hx
    exact ⟨r, c, e, by simpa using h1, h2⟩
  | [], [], k, _, _, hx => by simp at hx
  | [], _ :: _, _, _, h, _ => h.elim
  | _ :: _, [], _, _, h, _ => h.elim
end
end Wm

/-! The laws' own drawing of faces. -/
namespace Wm
open PySem PySem.Spec PyProof.Rows L2
section
variable (K : PySem.W.Frag)
def sp__law_face : Sp := fun vs H Q _ => ∃ (a r : Addr) (n f s t l : Int), vs = [.ref a, .int f, .int s, .ref r] ∧ Src H a n ∧ n < 2 ^ 40 ∧ 1 ≤ f ∧ f ≤ 10 ^ 14 ∧ 0 ≤ s ∧ s ≤ 10 ^ 14 ∧ 1 ≤ t ∧ t ≤ 10 ^ 7 ∧ 1 ≤ l ∧ l ≤ f + t * s ∧ H r = some (.tup [.int t, .int l, .int (Bg f s t + l)]) ∧
  ∀ (q : Addr) (H' : Hp) (c : Int) (i : Bool), 0 ≤ c → c < Bg f s t + l → Src H' a (n + 20) → But a H H' → Fc H' q c i → Q (.ref q) H'
def sp__law_drawn : Sp := fun vs H Q _ => ∃ (a x y : Addr) (n lo hi la lb : Int), vs = [.ref a, .ref x, .ref y] ∧ Src H a n ∧ n < 2 ^ 40 ∧ H x = some (.tup [.int lo, .int hi]) ∧ H y = some (.tup [.int la, .int lb]) ∧ 0 ≤ lo ∧ lo ≤ hi ∧ hi < 2 ^ 600 ∧ 0 ≤ la ∧ la ≤ lb ∧ lb < 2 ^ 600 ∧
  ∀ (q : Addr) (H' : Hp) (c : Int) (i : Bool), (i = false → lo ≤ c ∧ c ≤ hi) → (i = true → la ≤ c ∧ c ≤ lb) → Src H' a (n + 20) → But a H H' → Fc H' q c i → Q (.ref q) H'
end
section
variable {K : PySem.W.Frag} {σ : L2.St} {H : Hp} {Q : VK} {E : XK} {p a q r x y : Addr} {f s t c l n lo hi la lb : Int} {i j : Bool}
theorem y_law_face (hs : Src H a n) (hn : n < 2 ^ 40) (f1 : 1 ≤ f) (f2 : f ≤ 10 ^ 14) (s1 : 0 ≤ s) (s2 : s ≤ 10 ^ 14) (t0 : 1 ≤ t) (t1 : t ≤ 10 ^ 7) (l0 : 1 ≤ l) (l1 : l ≤ f + t * s) (e : H r = some (.tup [.int t, .int l, .int (Bg f s t + l)]))
    (h : ∀ (q : Addr) (H' : Hp) (c : Int) (i : Bool), 0 ≤ c → c < Bg f s t + l → Src H' a (n + 20) → But a H H' → Fc H' q c i → Q (.ref q) H') : sp__law_face [.ref a, .int f, .int s, .ref r] H Q E := ⟨a, r, n, f, s, t, l, rfl, hs, hn, f1, f2, s1, s2, t0, t1, l0, l1, e, h⟩
theorem y_law_drawn (hs : Src H a n) (hn : n < 2 ^ 40) (e : H x = some (.tup [.int lo, .int hi])) (e' : H y = some (.tup [.int la, .int lb])) (h0 : 0 ≤ lo) (h1 : lo ≤ hi) (h2 : hi < 2 ^ 600) (h3 : 0 ≤ la) (h4 : la ≤ lb) (h5 : lb < 2 ^ 600)
    (h : ∀ (q : Addr) (H' : Hp) (c : Int) (i : Bool), (i = false → lo ≤ c ∧ c ≤ hi) → (i = true → la ≤ c ∧ c ≤ lb) → Src H' a (n + 20) → But a H H' → Fc H' q c i → Q (.ref q) H') : sp__law_drawn [.ref a, .ref x, .ref y] H Q E := ⟨a, x, y, n, lo, hi, la, lb, rfl, hs, hn, e, e', h0, h1, h2, h3, h4, h5, h⟩
theorem x_rNeIn (h : Q (.bl (!i)) H) : rNe (.str (sdS i)) (.str "in") H Q := ⟨rfl, by
  have e : decide (V.str (sdS i) = V.str "in") = i := by cases i <;> decide +kernel
  rw [e]; exact h⟩
theorem sd_in : V.str "in" = V.str (sdS true) := rfl
theorem sd_out : V.str "out" = V.str (sdS false) := rfl
end
end Wm

/-! Faces on ways: how far they are from both ends, and from a third face. -/
namespace Wm
/-- a face and what it touches beneath are of one sector -/
theorem sec_touch {f s u x : Int} (hf : 1 ≤ f) (hs : 0 ≤ s) (hu : 0 ≤ u) (nu : ¬ tOf f s u = 0) (h1 : bnL f s u ≤ x) (h2 : x ≤ bnH f s u) :
    0 ≤ x ∧ tOf f s u = tOf f s x + 1 ∧ tOf f s x = tOf f s (bnL f s u) ∧ secN f s x = secN f s (bnL f s u) ∧ pFi f s x ≤ u ∧ u < pFi f s x + prt f s x ∧ x ≤ bnH f s u := by
  obtain ⟨t, l, e, t0, l0, l1, e1, n2, n3, q0, q1⟩ := bn_rng hf hs hu nu
  have gg := gcdI_pos (s := s) hf
  have ts := mul_nn t0 hs
  have bb := bg_ge hf hs t0
  have ez : f + (t + 1) * s = f + t * s + s := by grind
  obtain ⟨w1, w2⟩ := dvd_part gg (show 1 ≤ f + t * s + s by omega) (by have := gcdI_dz f s (t + 1); rwa [ez] at this)
  obtain ⟨d1, d2⟩ := div_bd l ((f + t * s + s) / gcdI f s) (by omega)
  have m0 : 0 ≤ l / ((f + t * s + s) / gcdI f s) := Int.ediv_nonneg l0 (by omega)
  have B := bn_sec (x := l) (m := l / ((f + t * s + s) / gcdI f s)) hf hs t0 l0 l1 m0 d1 d2
  rw [← e] at B
  obtain ⟨B1, B2, B3, B4, B5, B6, B7⟩ := B
  have T := (where_at (l := x - Bg f s t) hf hs t0 (by omega) (by omega)).1
  have S := sec_at (y := x - Bg f s t) (m := l / ((f + t * s + s) / gcdI f s)) hf hs t0 (by omega) (by omega) (by omega) (by omega)
  have e2 : Bg f s t + (x - Bg f s t) = x := by omega
  rw [e2] at T S
  have eP : prt f s x = (f + t * s + s) / gcdI f s := by unfold prt; rw [T, ez]
  have eF : pFi f s x = Bg f s (t + 1) + l / ((f + t * s + s) / gcdI f s) * ((f + t * s + s) / gcdI f s) := by unfold pFi; rw [T, S, eP]
  exact ⟨by omega, by omega, by omega, by rw [S, B3], by omega, by omega, h2⟩
theorem bnH_mono {f s u v : Int} (hf : 1 ≤ f) (hs : 0 ≤ s) (hu : 0 ≤ u) (nu : ¬ tOf f s u = 0) (hv : 0 ≤ v) (e : tOf f s u = tOf f s v) (h : u ≤ v) : bnH f s u ≤ bnH f s v := by
  obtain ⟨t, l, e1, t0, l0, l1, e2, n2, n3, q0, q1⟩ := bn_rng hf hs hu nu
  obtain ⟨t', l', e1', t0', l0', l1', e2', n2', n3', q0', q1'⟩ := bn_rng hf hs hv (by omega)
  have et : t' = t := by omega
  subst et
  have ts := mul_nn t0 hs
  rw [n3, n3']
  have m := Int.mul_le_mul_of_nonneg_right (show l + 1 ≤ l' + 1 by omega) (show 0 ≤ f + t' * s by omega)
  have := Int.ediv_le_ediv (show 0 < f + t' * s + s by omega) (show (l + 1) * (f + t' * s) - 1 ≤ (l' + 1) * (f + t' * s) - 1 by omega)
  omega
theorem pc_of {f s G G' : Int} (e : tOf f s G = tOf f s G') (e' : secN f s G = secN f s G') : pLo f s G = pLo f s G' ∧ pFi f s G = pFi f s G' ∧ prt f s G = prt f s G' := by
  have e3 := siz_of e
  unfold pLo pFi prt
  rw [e, e', e3]
  exact ⟨rfl, rfl, rfl⟩
theorem in_piece {f s n c : Int} {i : Bool} (hf : 1 ≤ f) (hs : 0 ≤ s) (hc : 0 ≤ c) (h1 : c < n) (z : ¬ gNo f s n c i) : gH f s c i ≤ bnH f s (pLa f s n (gL f s c i)) ∧ (i = true → pFi f s (gL f s c i) ≤ c ∧ c ≤ pLa f s n (gL f s c i)) := by
  obtain ⟨g0, g1, g2⟩ := gL_nn hf hs hc h1 z
  obtain ⟨m0, w1, w2, b0, b1, b2, b3, b4, b5, b6, b7, b8, b9⟩ := piece_facts hf hs g0 g2
  have la : pLa f s n (gL f s c i) = min (pFi f s (gL f s c i) + prt f s (gL f s c i)) n - 1 := rfl
  cases i
  · have ab := (ab_next hf hs hc).2.2
    have g2' : abL f s c < n := g2
    -- the first cell that lies on c
    obtain ⟨t, l, e, t0, l0, l1⟩ := cell_tl hf hs hc
    obtain ⟨aL, aH⟩ := ab_at hf hs t0 l0 l1
    rw [← e] at aL aH
    have ts := mul_nn t0 hs
    obtain ⟨o0, o1, o2, _⟩ := over_facts l0 l1 (show f + t * s ≤ f + t * s + s by omega)
    have ez : f + (t + 1) * s = f + t * s + s := by grind
    have w := (where_at (t := t + 1) (l := l * (f + t * s + s) / (f + t * s)) hf hs (by omega) o0 (by rw [ez]; omega)).1
    rw [← aL] at w
    have nz : ¬ tOf f s (abL f s c) = 0 := by omega
    have T := (touch_iff (u := abL f s c) (x := c) hf hs (by omega) nz hc).mpr ⟨Int.le_refl _, by omega⟩
    obtain ⟨s0, s1, s2, s3, s4, s5, s6⟩ := sec_touch hf hs (show 0 ≤ abL f s c by omega) nz T.1 T.2
    refine ⟨?_, fun h => by cases h⟩
    show c ≤ bnH f s (pLa f s n c)
    have la' : pLa f s n c = min (pFi f s c + prt f s c) n - 1 := rfl
    have b4' : tOf f s (pLa f s n c) = tOf f s c + 1 := b4
    have b2' : pLa f s n c < n := b2
    have := bnH_mono (v := pLa f s n c) hf hs (show 0 ≤ abL f s c by omega) nz (by omega) (by omega) (by omega)
    omega
  · unfold gNo at z
    simp at z
    have W := ab_bnH hf hs hc z
    obtain ⟨s0, s1, s2, s3, s4, s5, s6⟩ := sec_touch (x := bnL f s c) hf hs hc z (Int.le_refl _) W.1
    have b4' : tOf f s (pLa f s n (bnL f s c)) = tOf f s (bnL f s c) + 1 := b4
    have la' : pLa f s n (bnL f s c) = min (pFi f s (bnL f s c) + prt f s (bnL f s c)) n - 1 := rfl
    have := bnH_mono (v := pLa f s n (bnL f s c)) hf hs hc z (by omega) (by omega) (by omega)
    refine ⟨this, fun _ => ⟨s4, ?_⟩⟩
    show c ≤ pLa f s n (bnL f s c)
    omega
theorem hang_eq {f s n c d : Int} {i j : Bool} (z : ¬ gNo f s n c i) (z' : ¬ gNo f s n d j) (h : hang f s n c i d j) : pLo f s (gL f s c i) = pLo f s (gL f s d j) ∧ bnH f s (pLa f s n (gL f s c i)) = bnH f s (pLa f s n (gL f s d j)) := by
  have h1 := h.1
  unfold pcL at h1
  rw [if_neg z, if_neg z'] at h1
  simp only [Option.some.injEq, Prod.mk.injEq] at h1
  exact h1
/-- a face amid a way -/
theorem ow_mid {f s n c d m : Int} {i j : Bool} (hf : 1 ≤ f) (hs : 0 ≤ s) (c0 : 0 ≤ c) (c1 : c < n) (d0 : 0 ≤ d) (d1 : d < n) (h : hang f s n c i d j) (ne : ¬ (c = d ∧ i = j)) (m0 : 0 < m) (m1 : m < apI f s c i d j) :
    ¬ gNo f s n (owC f s n c i d j m) (owI f s c i d j m) ∧ 0 ≤ owC f s n c i d j m ∧ owC f s n c i d j m < n ∧ hang f s n c i (owC f s n c i d j m) (owI f s c i d j m) ∧
    (((m - rsI i) % 2 = 0 ∧ owI f s c i d j m = false ∧ owC f s n c i d j m = amL (gL f s c i) (gH f s c i) (gL f s d j) (m - rsI i)) ∨
     (¬ (m - rsI i) % 2 = 0 ∧ owI f s c i d j m = true ∧ bnL f s (owC f s n c i d j m) = min (amL (gL f s c i) (gH f s c i) (gL f s d j) (m - rsI i)) (amL (gL f s c i) (gH f s c i) (gL f s d j) (m - rsI i) + amW (gL f s c i) (gH f s c i) (gL f s d j)) ∧
       bnH f s (owC f s n c i d j m) = min (amL (gL f s c i) (gH f s c i) (gL f s d j) (m - rsI i)) (amL (gL f s c i) (gH f s c i) (gL f s d j) (m - rsI i) + amW (gL f s c i) (gH f s c i) (gL f s d j)) + 1)) := by
  obtain ⟨z, z'⟩ := hang_no h ne
  have ri := rsI_nn i
  have rj := rsI_nn j
  have V1 := g_wide hf hs c0 c1 z
  have V2 := g_wide hf hs d0 d1 z'
  obtain ⟨E1, E2⟩ := hang_eq z z' h
  obtain ⟨P0, P1, _⟩ := piece_ends hf hs c0 c1 z
  obtain ⟨Q0, Q1, _⟩ := piece_ends hf hs d0 d1 z'
  have I1 := (in_piece hf hs c0 c1 z).1
  have I2 := (in_piece hf hs d0 d1 z').1
  have m1' := m1
  rw [ap_dI ne] at m1'
  obtain ⟨U, L⟩ := hang_piece hf hs c0 c1 z
  have me : ¬ m = 0 := by omega
  have mf : ¬ m = apI f s c i d j := by omega
  unfold owC owI
  rw [if_neg me, if_neg mf, if_neg me, if_neg mf]
  by_cases ev : (m - rsI i) % 2 = 0
  · rw [if_pos ev, decide_eq_true ev]
    obtain ⟨A1, A2, A3, A4, A5, A6⟩ := ow_even V1 V2 ri.1 ri.2 rj.1 rj.2 m0 m1' ev
    obtain ⟨y0, y1, y2, y3⟩ := L _ (show pLo f s (gL f s c i) ≤ amL (gL f s c i) (gH f s c i) (gL f s d j) (m - rsI i) by omega) (by omega)
    exact ⟨y2, y0, y1, y3, .inl ⟨ev, rfl, rfl⟩⟩
  · rw [if_neg ev, decide_eq_false ev]
    obtain ⟨A1, A2, A3, A4, A5, A6⟩ := ow_odd V1 V2 ri.1 ri.2 rj.1 rj.2 m0 m1' ev
    generalize min (amL (gL f s c i) (gH f s c i) (gL f s d j) (m - rsI i)) (amL (gL f s c i) (gH f s c i) (gL f s d j) (m - rsI i) + amW (gL f s c i) (gH f s c i) (gL f s d j)) = x at *
    obtain ⟨k0, k1, k2, k3, k4, k5, k6⟩ := link hf hs c0 c1 z (show pLo f s (gL f s c i) ≤ x by omega) (by omega)
    have em : min (abH f s x) (n - 1) = abL f s (x + 1) := by omega
    rw [em]
    exact ⟨k3, k1, k2, k6, .inr ⟨ev, rfl, k4, k5⟩⟩
theorem ap_sym {f s c d : Int} {i j : Bool} : apI f s c i d j = apI f s d j c i := by
  unfold apI
  by_cases h : c = d ∧ i = j
  · rw [if_pos h, if_pos ⟨h.1.symm, h.2.symm⟩]
  · rw [if_neg h, if_neg (fun q => h ⟨q.1.symm, q.2.symm⟩)]
    omega
theorem ap_self {f s c : Int} {i : Bool} : apI f s c i c i = 0 := by unfold apI; rw [if_pos ⟨rfl, rfl⟩]
theorem hang_sym {f s n c d : Int} {i j : Bool} (h : hang f s n c i d j) : hang f s n d j c i := ⟨h.1.symm, h.2.symm⟩
theorem hang_tr {f s n c d g : Int} {i j k : Bool} (h : hang f s n c i d j) (h' : hang f s n d j g k) : hang f s n c i g k := ⟨h.1.trans h'.1, h.2.trans h'.2⟩
theorem ap_pos {f s n c d : Int} {i j : Bool} (hf : 1 ≤ f) (hs : 0 ≤ s) (c0 : 0 ≤ c) (c1 : c < n) (d0 : 0 ≤ d) (d1 : d < n) (h : hang f s n c i d j) (ne : ¬ (c = d ∧ i = j)) : 1 ≤ apI f s c i d j := by
  obtain ⟨z, z'⟩ := hang_no h ne
  rw [ap_dI ne]
  have V1 := g_wide hf hs c0 c1 z
  have V2 := g_wide hf hs d0 d1 z'
  have N := face_ne hf hs c0 d0 z z' ne
  have ri := rsI_nn i
  have rj := rsI_nn j
  unfold dI
  unfold neG at N
  omega
/-- the faces on a way: so far from both -/
theorem ow_facts {f s n c d m : Int} {i j : Bool} (hf : 1 ≤ f) (hs : 0 ≤ s) (c0 : 0 ≤ c) (c1 : c < n) (d0 : 0 ≤ d) (d1 : d < n) (h : hang f s n c i d j) (m0 : 0 ≤ m) (m1 : m ≤ apI f s c i d j) :
    0 ≤ owC f s n c i d j m ∧ owC f s n c i d j m < n ∧ hang f s n c i (owC f s n c i d j m) (owI f s c i d j m) ∧ apI f s c i (owC f s n c i d j m) (owI f s c i d j m) = m ∧ apI f s (owC f s n c i d j m) (owI f s c i d j m) d j = apI f s c i d j - m := by
  by_cases me : m = 0
  · have e1 : owC f s n c i d j m = c := by unfold owC; rw [if_pos me]
    have e2 : owI f s c i d j m = i := by unfold owI; rw [if_pos me]
    rw [e1, e2, ap_self]
    exact ⟨c0, c1, ⟨rfl, rfl⟩, me.symm, by omega⟩
  by_cases mf : m = apI f s c i d j
  · have e1 : owC f s n c i d j m = d := by unfold owC; rw [if_neg me, if_pos mf]
    have e2 : owI f s c i d j m = j := by unfold owI; rw [if_neg me, if_pos mf]
    rw [e1, e2, ap_self]
    exact ⟨d0, d1, h, mf.symm, by omega⟩
  have ne : ¬ (c = d ∧ i = j) := by
    intro q
    have : apI f s c i d j = 0 := by unfold apI; rw [if_pos q]
    omega
  obtain ⟨x0, x1, x2, x3, x4⟩ := ow_mid (m := m) hf hs c0 c1 d0 d1 h ne (by omega) (by omega)
  obtain ⟨z, z'⟩ := hang_no h ne
  have ri := rsI_nn i
  have rj := rsI_nn j
  have V1 := g_wide hf hs c0 c1 z
  have V2 := g_wide hf hs d0 d1 z'
  have m1' : m < dI (gL f s c i) (gH f s c i) (rsI i) (gL f s d j) (gH f s d j) (rsI j) := by rw [← ap_dI ne]; omega
  refine ⟨x1, x2, x3, ?_⟩
  rcases x4 with ⟨ev, eI, eC⟩ | ⟨ev, eI, eL, eH⟩
  · obtain ⟨A1, A2, A3, A4, A5, A6⟩ := ow_even V1 V2 ri.1 ri.2 rj.1 rj.2 (show 0 < m by omega) m1' ev
    rw [eI]
    have n1 : ¬ (c = owC f s n c i d j m ∧ i = false) := by
      rintro ⟨q, rfl⟩
      exact A3 ⟨rfl, by rw [← eC]; exact q.symm⟩
    have n2 : ¬ (owC f s n c i d j m = d ∧ false = j) := by
      rintro ⟨q, rfl⟩
      exact A4 ⟨rfl, by rw [← eC]; exact q⟩
    rw [ap_dI n1, ap_dI n2, ap_dI ne]
    rw [eC]
    exact ⟨A1, A2⟩
  · obtain ⟨A1, A2, A3, A4, A5, A6⟩ := ow_odd V1 V2 ri.1 ri.2 rj.1 rj.2 (show 0 < m by omega) m1' ev
    rw [eI]
    have n1 : ¬ (c = owC f s n c i d j m ∧ i = true) := by
      rintro ⟨q, rfl⟩
      exact A3 ⟨rfl, by rw [← eL, ← q]; rfl, by rw [← eH, ← q]; rfl⟩
    have n2 : ¬ (owC f s n c i d j m = d ∧ true = j) := by
      rintro ⟨q, rfl⟩
      exact A4 ⟨rfl, by rw [← eL, q]; rfl, by rw [← eH, q]; rfl⟩
    rw [ap_dI n1, ap_dI n2, ap_dI ne]
    show dI _ _ _ (bnL f s (owC f s n c i d j m)) (bnH f s (owC f s n c i d j m)) 1 = m ∧ dI (bnL f s (owC f s n c i d j m)) (bnH f s (owC f s n c i d j m)) 1 _ _ _ = _
    rw [eL, eH]
    exact ⟨A1, A2⟩
/-- and from a third face -/
theorem amid_far {f s n c d g : Int} {i j k : Bool} (hf : 1 ≤ f) (hs : 0 ≤ s) (c0 : 0 ≤ c) (c1 : c < n) (d0 : 0 ≤ d) (d1 : d < n) (g0 : 0 ≤ g) (g1 : g < n) (h : hang f s n c i d j) (h' : hang f s n c i g k) :
    0 ≤ adI f s c i d j g k ∧ adI f s c i d j g k ≤ apI f s c i d j ∧ 2 * adI f s c i d j g k = apI f s c i d j + apI f s c i g k - apI f s d j g k ∧
    apI f s (owC f s n c i d j (adI f s c i d j g k)) (owI f s c i d j (adI f s c i d j g k)) g k = apI f s c i g k - adI f s c i d j g k := by
  obtain ⟨T1, T2⟩ := ap_tri hf hs c0 c1 d0 d1 g0 g1 h h'
  have N12 := ap_nn (f := f) (s := s) (c := c) (d := d) (i := i) (j := j)
  have h2 : hang f s n d j g k := hang_tr (hang_sym h) h'
  have T3 := (ap_tri hf hs d0 d1 c0 c1 g0 g1 (hang_sym h) h2).1
  rw [ap_sym (c := d) (d := c)] at T3
  have ri := rsI_nn i
  have rj := rsI_nn j
  have rk := rsI_nn k
  have par : (apI f s c i d j + apI f s c i g k - apI f s d j g k) % 2 = 0 := by
    by_cases n12 : c = d ∧ i = j
    · obtain ⟨rfl, rfl⟩ := n12
      rw [ap_self]; omega
    by_cases n13 : c = g ∧ i = k
    · obtain ⟨rfl, rfl⟩ := n13
      rw [ap_self, ap_sym (c := d) (d := c)]; omega
    by_cases n23 : d = g ∧ j = k
    · obtain ⟨rfl, rfl⟩ := n23
      rw [ap_self]; omega
    rw [ap_dI n12, ap_dI n13, ap_dI n23]
    unfold dI
    omega
  have hm : 2 * adI f s c i d j g k = apI f s c i d j + apI f s c i g k - apI f s d j g k := by unfold adI; omega
  refine ⟨by omega, by omega, hm, ?_⟩
  generalize adI f s c i d j g k = m at *
  by_cases me : m = 0
  · have e1 : owC f s n c i d j m = c := by unfold owC; rw [if_pos me]
    have e2 : owI f s c i d j m = i := by unfold owI; rw [if_pos me]
    rw [e1, e2]; omega
  by_cases mf : m = apI f s c i d j
  · have e1 : owC f s n c i d j m = d := by unfold owC; rw [if_neg me, if_pos mf]
    have e2 : owI f s c i d j m = j := by unfold owI; rw [if_neg me, if_pos mf]
    rw [e1, e2]; omega
  have n12 : ¬ (c = d ∧ i = j) := by
    intro q
    have : apI f s c i d j = 0 := by unfold apI; rw [if_pos q]
    omega
  have n13 : ¬ (c = g ∧ i = k) := by
    rintro ⟨rfl, rfl⟩
    rw [ap_self, ap_sym (c := d) (d := c)] at hm
    omega
  have n23 : ¬ (d = g ∧ j = k) := by
    rintro ⟨rfl, rfl⟩
    rw [ap_self] at hm
    omega
  obtain ⟨x0, x1, x2, x3, x4⟩ := ow_mid hf hs c0 c1 d0 d1 h n12 (show 0 < m by omega) (by omega)
  obtain ⟨z, z'⟩ := hang_no h n12
  obtain ⟨_, z2⟩ := hang_no h' n13
  have V1 := g_wide hf hs c0 c1 z
  have V2 := g_wide hf hs d0 d1 z'
  have V3 := g_wide hf hs g0 g1 z2
  have F1 := face_ne hf hs c0 d0 z z' n12
  have F2 := face_ne hf hs c0 g0 z z2 n13
  have F3 := face_ne hf hs d0 g0 z' z2 n23
  have m1' : m < dI (gL f s c i) (gH f s c i) (rsI i) (gL f s d j) (gH f s d j) (rsI j) := by rw [← ap_dI n12]; omega
  have hm' := hm
  rw [ap_dI n12, ap_dI n13, ap_dI n23] at hm'
  rcases x4 with ⟨ev, eI, eC⟩ | ⟨ev, eI, eL, eH⟩
  · have A := ow_even3 V1 V2 V3 ri.1 ri.2 rj.1 rj.2 rk.1 rk.2 F1 F2 F3 hm' (by omega) m1' ev
    rw [eI, ap_dI n13, ← A]
    by_cases q : owC f s n c i d j m = g ∧ false = k
    · obtain ⟨q1, rfl⟩ := q
      rw [q1, ap_self, ← eC, q1]
      show (0 : Int) = dI g g 0 g g 0
      unfold dI; omega
    · rw [ap_dI q, eC]
      rfl
  · rw [eI]
    rcases ow_odd3 V1 V2 V3 ri.1 ri.2 rj.1 rj.2 rk.1 rk.2 F1 F2 F3 hm' (by omega) m1' ev with ⟨k1, k2, k3, k4⟩ | ⟨k1, k2⟩
    · cases k
      · exact absurd k1 (by decide)
      · unfold gNo at z2
        simp at z2
        rw [eI] at x0
        unfold gNo at x0
        simp at x0
        have e1 : owC f s n c i d j m = g := up_unique hf hs x1 x0 g0 z2 (eL.trans k2.symm) (by rw [eH]; have : bnH f s g = bnL f s g + 1 := k3; have : bnL f s g = _ := k2; omega) (by rw [eH, eL])
        rw [e1, ap_self, ap_dI n13]
        exact k4.symm
    · by_cases q : owC f s n c i d j m = g ∧ true = k
      · obtain ⟨q1, rfl⟩ := q
        exact absurd ⟨rfl, by rw [← eL, q1]; rfl, by show bnH f s g = bnL f s g + 1; rw [← q1, eH, eL]⟩ k1
      · rw [ap_dI q, ap_dI n13, ← k2]
        show dI (bnL f s (owC f s n c i d j m)) (bnH f s (owC f s n c i d j m)) 1 _ _ _ = _
        rw [eL, eH]
end Wm

/-! There is one face only so far on a way. -/
namespace Wm
theorem uniq0 {a b r u v t p q w p' q' w' : Int} (w1 : a ≤ b ∧ b ≤ a + r) (w2 : u ≤ v ∧ v ≤ u + t) (w3 : p ≤ q ∧ q ≤ p + w) (w4 : p' ≤ q' ∧ q' ≤ p' + w') (r0 : 0 ≤ r) (r1 : r ≤ 1) (t0 : 0 ≤ t) (t1 : t ≤ 1) (z0 : 0 ≤ w) (z1 : w ≤ 1) (z2 : 0 ≤ w') (z3 : w' ≤ 1)
    (n : neG a b r u v t) (nU : neG p q w p' q' w') (e1 : dI a b r p q w = dI a b r p' q' w') (e2 : dI p q w u v t = dI p' q' w' u v t) (e3 : dI a b r p q w + dI p q w u v t = dI a b r u v t) : False := by
  have ew : w = w' := by unfold dI at e1; omega
  subst ew
  unfold dI neG at *
  have G1 := gap_cases a b u v w1.1 w2.1
  have G2 := gap_cases a b p q w1.1 w3.1
  have G3 := gap_cases a b p' q' w1.1 w4.1
  have G4 := gap_cases p q u v w3.1 w2.1
  have G5 := gap_cases p' q' u v w4.1 w2.1
  generalize max (max 0 (u - b)) (a - v) = g1 at *
  generalize max (max 0 (p - b)) (a - q) = g2 at *
  generalize max (max 0 (p' - b)) (a - q') = g3 at *
  generalize max (max 0 (u - q)) (p - v) = g4 at *
  generalize max (max 0 (u - q')) (p' - v) = g5 at *
  obtain rfl : g3 = g2 := by omega
  obtain rfl : g5 = g4 := by omega
  obtain rfl : g1 = g3 + g5 + w := by omega
  rcases G1 with c | c | c <;> rcases G2 with c' | c' | c' <;> try omega
theorem uniq {f s n c d x y : Int} {i j k l : Bool} (hf : 1 ≤ f) (hs : 0 ≤ s) (c0 : 0 ≤ c) (c1 : c < n) (d0 : 0 ≤ d) (d1 : d < n) (x0 : 0 ≤ x) (x1 : x < n) (y0 : 0 ≤ y) (y1 : y < n) (h : hang f s n c i d j) (hx : hang f s n c i x k) (hy : hang f s n c i y l)
    (e1 : apI f s c i x k = apI f s c i y l) (e2 : apI f s x k d j = apI f s y l d j) (e3 : apI f s c i x k + apI f s x k d j = apI f s c i d j) : x = y ∧ k = l := by
  apply Classical.byContradiction
  intro nU
  have zero : ∀ {a b : Int} {p q : Bool}, 0 ≤ a → a < n → 0 ≤ b → b < n → hang f s n a p b q → apI f s a p b q = 0 → a = b ∧ p = q := by
    intro a b p q a0 a1 b0 b1 hh e
    apply Classical.byContradiction
    intro ne
    have := ap_pos hf hs a0 a1 b0 b1 hh ne
    omega
  have n1 : ¬ (c = x ∧ i = k) := by
    rintro ⟨rfl, rfl⟩
    rw [ap_self] at e1
    exact nU (zero c0 c1 y0 y1 hy e1.symm)
  have n2 : ¬ (c = y ∧ i = l) := by
    rintro ⟨rfl, rfl⟩
    rw [ap_self] at e1
    obtain ⟨a, b⟩ := zero c0 c1 x0 x1 hx e1
    exact nU ⟨a.symm, b.symm⟩
  have hxd := hang_tr (hang_sym hx) h
  have hyd := hang_tr (hang_sym hy) h
  have n3 : ¬ (x = d ∧ k = j) := by
    rintro ⟨rfl, rfl⟩
    rw [ap_self] at e2
    obtain ⟨a, b⟩ := zero y0 y1 x0 x1 hyd e2.symm
    exact nU ⟨a.symm, b.symm⟩
  have n4 : ¬ (y = d ∧ l = j) := by
    rintro ⟨rfl, rfl⟩
    rw [ap_self] at e2
    exact nU (zero x0 x1 y0 y1 hxd e2)
  have n5 : ¬ (c = d ∧ i = j) := by
    rintro ⟨rfl, rfl⟩
    rw [ap_self (c := c), ap_sym (c := x)] at e3
    have := ap_pos hf hs c0 c1 x0 x1 hx n1
    omega
  obtain ⟨z, z1⟩ := hang_no hx n1
  obtain ⟨_, z2⟩ := hang_no hy n2
  obtain ⟨_, z3⟩ := hang_no h n5
  rw [ap_dI n1, ap_dI n2] at e1
  rw [ap_dI n3, ap_dI n4] at e2
  rw [ap_dI n1, ap_dI n3, ap_dI n5] at e3
  have r1 := rsI_nn i
  have r2 := rsI_nn j
  have r3 := rsI_nn k
  have r4 := rsI_nn l
  exact uniq0 (g_wide hf hs c0 c1 z) (g_wide hf hs d0 d1 z3) (g_wide hf hs x0 x1 z1) (g_wide hf hs y0 y1 z2) r1.1 r1.2 r2.1 r2.2 r3.1 r3.2 r4.1 r4.2 (face_ne hf hs c0 d0 z z3 n5) (face_ne hf hs x0 y0 z1 z2 nU) e1 e2 e3
end Wm

/-! The face amid three, in whatever order. -/
namespace Wm
open PySem PySem.Spec PyProof.Rows L2
def isAm (f s n u : Int) (v : Bool) (c : Int) (i : Bool) (d : Int) (j : Bool) (g : Int) (k : Bool) : Prop := 0 ≤ u ∧ u < n ∧ hang f s n c i u v ∧ 2 * apI f s c i u v = apI f s c i d j + apI f s c i g k - apI f s d j g k ∧
  2 * apI f s u v d j = apI f s c i d j + apI f s d j g k - apI f s c i g k ∧ 2 * apI f s u v g k = apI f s c i g k + apI f s d j g k - apI f s c i d j
theorem am_is {f s n c d g : Int} {i j k : Bool} (hf : 1 ≤ f) (hs : 0 ≤ s) (c0 : 0 ≤ c) (c1 : c < n) (d0 : 0 ≤ d) (d1 : d < n) (g0 : 0 ≤ g) (g1 : g < n) (h : hang f s n c i d j) (h' : hang f s n c i g k) :
    isAm f s n (owC f s n c i d j (adI f s c i d j g k)) (owI f s c i d j (adI f s c i d j g k)) c i d j g k := by
  obtain ⟨a0, a1, a2, a3⟩ := amid_far hf hs c0 c1 d0 d1 g0 g1 h h'
  obtain ⟨b0, b1, b2, b3, b4⟩ := ow_facts hf hs c0 c1 d0 d1 h a0 a1
  exact ⟨b0, b1, b2, by omega, by omega, by omega⟩
theorem am_uniq {f s n u u' c d g : Int} {v v' i j k : Bool} (hf : 1 ≤ f) (hs : 0 ≤ s) (c0 : 0 ≤ c) (c1 : c < n) (d0 : 0 ≤ d) (d1 : d < n) (h : hang f s n c i d j) (x : isAm f s n u v c i d j g k) (y : isAm f s n u' v' c i d j g k) : u = u' ∧ v = v' := by
  obtain ⟨x0, x1, x2, x3, x4, x5⟩ := x
  obtain ⟨y0, y1, y2, y3, y4, y5⟩ := y
  exact uniq hf hs c0 c1 d0 d1 x0 x1 y0 y1 h x2 y2 (by omega) (by omega) (by omega)
/-- of the second, the third, the first -/
theorem am_231 {f s n u c d g : Int} {v i j k : Bool} (h : hang f s n c i d j) (x : isAm f s n u v d j g k c i) : isAm f s n u v c i d j g k := by
  obtain ⟨x0, x1, x2, x3, x4, x5⟩ := x
  have e1 := ap_sym (f := f) (s := s) (c := c) (d := d) (i := i) (j := j)
  have e2 := ap_sym (f := f) (s := s) (c := c) (d := g) (i := i) (j := k)
  have e3 := ap_sym (f := f) (s := s) (c := c) (d := u) (i := i) (j := v)
  have e4 := ap_sym (f := f) (s := s) (c := d) (d := u) (i := j) (j := v)
  exact ⟨x0, x1, hang_tr h x2, by omega, by omega, by omega⟩
theorem am_312 {f s n u c d g : Int} {v i j k : Bool} (h : hang f s n c i g k) (x : isAm f s n u v g k c i d j) : isAm f s n u v c i d j g k := by
  obtain ⟨x0, x1, x2, x3, x4, x5⟩ := x
  have e1 := ap_sym (f := f) (s := s) (c := c) (d := g) (i := i) (j := k)
  have e2 := ap_sym (f := f) (s := s) (c := d) (d := g) (i := j) (j := k)
  have e3 := ap_sym (f := f) (s := s) (c := c) (d := u) (i := i) (j := v)
  have e4 := ap_sym (f := f) (s := s) (c := g) (d := u) (i := k) (j := v)
  exact ⟨x0, x1, hang_tr h x2, by omega, by omega, by omega⟩
theorem am_213 {f s n u c d g : Int} {v i j k : Bool} (h : hang f s n c i d j) (x : isAm f s n u v d j c i g k) : isAm f s n u v c i d j g k := by
  obtain ⟨x0, x1, x2, x3, x4, x5⟩ := x
  have e1 := ap_sym (f := f) (s := s) (c := c) (d := d) (i := i) (j := j)
  have e3 := ap_sym (f := f) (s := s) (c := c) (d := u) (i := i) (j := v)
  have e4 := ap_sym (f := f) (s := s) (c := d) (d := u) (i := j) (j := v)
  exact ⟨x0, x1, hang_tr h x2, by omega, by omega, by omega⟩
section
variable (K : PySem.W.Frag)
def sp__law_sums_right : Sp := fun vs H Q _ => ∃ (p L U q1 q2 q3 : Addr) (f s n c d g u : Int) (i j k v : Bool), vs = [.ref p, .int n, .ref L, .ref U] ∧ Drm K H p f s ∧ n < 2 ^ 600 ∧ H L = some (.lst [.ref q1, .ref q2, .ref q3]) ∧ Fc H q1 c i ∧ Fc H q2 d j ∧ Fc H q3 g k ∧ Fc H U u v ∧ 0 ≤ c ∧ c < n ∧ 0 ≤ d ∧ d < n ∧ 0 ≤ g ∧ g < n ∧
  hang f s n c i d j ∧ hang f s n c i g k ∧ isAm f s n u v c i d j g k ∧ ∀ H', Same H H' → Q (.bl true) H'
end
section
variable {K : PySem.W.Frag} {σ : L2.St} {H : Hp} {Q : VK} {E : XK} {D : Ends} {p L U q q1 q2 q3 : Addr} {f s n c d g u : Int} {i j k v : Bool} {xs : List V} {x y : V}
theorem y_sums_right (D : Drm K H p f s) (n2 : n < 2 ^ 600) (eL : H L = some (.lst [.ref q1, .ref q2, .ref q3])) (e1 : Fc H q1 c i) (e2 : Fc H q2 d j) (e3 : Fc H q3 g k) (eU : Fc H U u v) (c0 : 0 ≤ c) (c1 : c < n) (d0 : 0 ≤ d) (d1 : d < n) (g0 : 0 ≤ g) (g1 : g < n)
    (h : hang f s n c i d j) (h' : hang f s n c i g k) (a : isAm f s n u v c i d j g k) (kk : ∀ H', Same H H' → Q (.bl true) H') : sp__law_sums_right K [.ref p, .int n, .ref L, .ref U] H Q E :=
  ⟨p, L, U, q1, q2, q3, f, s, n, c, d, g, u, i, j, k, v, rfl, D, n2, eL, e1, e2, e3, eU, c0, c1, d0, d1, g0, g1, h, h', a, kk⟩
theorem x_cut {t w : TS} (P : L2.St → Hp → Prop) (h : t { D with nx := P } σ H) (h2 : ∀ σ' H', P σ' H' → w D σ' H') : C8.tCut t w D σ H := ⟨P, h, h2⟩
theorem x_inL {b : Bool} (e : H p = some (.lst xs)) (fx : flatV x = true) (fs : xs.all flatV = true) (hb : inV x xs = b) (h : Q (.bl b) H) : rIn K false x (.ref p) H Q := ⟨p, xs, rfl, .inl (sql e), fx, fs, by subst hb; exact h⟩
theorem x_neF (hp : Fc H p c i) (hq : Fc H q d j) (h : Q (.bl (!decide (c = d ∧ i = j))) H) : rNeD K (.ref p) (.ref q) H Q :=
  ⟨_, _, .tup (.inl (.inl hp)) (.cons (.int c) (.cons (.str _) .nil)), .tup (.inl (.inl hq)) (.cons (.int d) (.cons (.str _) .nil)), shaped_fc _ _, shaped_fc _ _, by
    have e : PyData.eqv (.tuple [.int c, .str (sdS i)]) (.tuple [.int d, .str (sdS j)]) = decide (c = d ∧ i = j) := by
      rw [PyData.eqv]
      simp only [PyData.eqvAll, PyData.eqv]
      have e2 : (sdS i == sdS j) = (i == j) := by cases i <;> cases j <;> decide +kernel
      rw [e2]
      cases i <;> cases j <;> simp <;> (rw [Bool.eq_iff_iff]; simp)
    rw [e]; exact h⟩
/-- two lists of three None -/
theorem x_neN3 (hp : H p = some (.lst [.non, .non, .non])) (hq : H q = some (.lst [.non, .non, .non])) (h : Q (.bl false) H) : rNeD K (.ref p) (.ref q) H Q :=
  ⟨_, _, .lst (sql hp) (.cons .non (.cons .non (.cons .non .nil))), .lst (sql hq) (.cons .non (.cons .non (.cons .non .nil))), by decide +kernel, by decide +kernel, by
    have e : PyData.eqv (.list [.none, .none, .none]) (.list [.none, .none, .none]) = true := by
      rw [PyData.eqv]
      simp [PyData.eqvAll, PyData.eqv]
    rw [e]; exact h⟩
end
end Wm

/-! What touches a face; the next one on a way. -/
namespace Wm
open PySem PySem.Spec PyProof.Rows L2
/-- what touches a face, by its cell; it is of the other side -/
def tch (f s n c : Int) (i : Bool) (x : Int) : Prop := if i = true then bnL f s c ≤ x ∧ x ≤ bnH f s c else abL f s c ≤ x ∧ x ≤ abH f s c ∧ x < n
theorem ab_turn {f s x u : Int} (hf : 1 ≤ f) (hs : 0 ≤ s) (hx : 0 ≤ x) (h1 : abL f s x ≤ u) (h2 : u ≤ abH f s x) : tOf f s u = tOf f s x + 1 ∧ 0 ≤ u := by
  obtain ⟨t, k, e, t0, k0, k1⟩ := cell_tl hf hs hx
  obtain ⟨aL, aH⟩ := ab_at hf hs t0 k0 k1
  obtain ⟨e1, _, _⟩ := where_at hf hs t0 k0 k1
  rw [← e] at aL aH e1
  have ts := mul_nn t0 hs
  obtain ⟨o0, o1, o2, _⟩ := over_facts k0 k1 (show f + t * s ≤ f + t * s + s by omega)
  have bb := bg_ge hf hs (show 0 ≤ t + 1 by omega)
  have ez : f + (t + 1) * s = f + t * s + s := by grind
  have w := (where_at (t := t + 1) (l := u - Bg f s (t + 1)) hf hs (by omega) (by omega) (by rw [ez]; omega)).1
  have e2 : Bg f s (t + 1) + (u - Bg f s (t + 1)) = u := by omega
  rw [e2] at w
  omega
theorem nbr {f s n c x : Int} {i : Bool} (hf : 1 ≤ f) (hs : 0 ≤ s) (c0 : 0 ≤ c) (c1 : c < n) (z : ¬ gNo f s n c i) (h : tch f s n c i x) : 0 ≤ x ∧ x < n ∧ hang f s n c i x (!i) ∧ ¬ gNo f s n x (!i) ∧ apI f s c i x (!i) = 1 := by
  obtain ⟨U, L⟩ := hang_piece hf hs c0 c1 z
  obtain ⟨P0, P1, _⟩ := piece_ends hf hs c0 c1 z
  have IP := (in_piece hf hs c0 c1 z).1
  cases i
  · have h' : abL f s c ≤ x ∧ x ≤ abH f s c ∧ x < n := h
    obtain ⟨T, x0⟩ := ab_turn hf hs c0 h'.1 h'.2.1
    have t0 := tOf_nn hf hs c0
    have nz : ¬ tOf f s x = 0 := by omega
    have W := (touch_iff hf hs x0 nz c0).mpr ⟨h'.1, h'.2.1⟩
    obtain ⟨s0, s1, s2, s3, s4, s5, s6⟩ := sec_touch hf hs x0 nz W.1 W.2
    have la : pLa f s n (gL f s c false) = min (pFi f s c + prt f s c) n - 1 := rfl
    obtain ⟨u0, u1, u2, u3, u4⟩ := U x s4 (by rw [la]; omega)
    refine ⟨u0, u1, u3, u2, ?_⟩
    rw [ap_dI (by rintro ⟨_, q⟩; cases q)]
    show dI c c 0 (bnL f s x) (bnH f s x) 1 = 1
    unfold dI; omega
  · have h' : bnL f s c ≤ x ∧ x ≤ bnH f s c := h
    have IP' : bnH f s c ≤ bnH f s (pLa f s n (gL f s c true)) := IP
    have P1' : pLo f s (gL f s c true) ≤ bnL f s c := P1
    obtain ⟨u0, u1, u2, u3⟩ := L x (by omega) (by omega)
    refine ⟨u0, u1, u3, u2, ?_⟩
    rw [ap_dI (by rintro ⟨_, q⟩; cases q)]
    show dI (bnL f s c) (bnH f s c) 1 x x 0 = 1
    unfold dI; omega
theorem ow_one {f s n c d : Int} {i j : Bool} (hf : 1 ≤ f) (hs : 0 ≤ s) (c0 : 0 ≤ c) (c1 : c < n) (d0 : 0 ≤ d) (d1 : d < n) (h : hang f s n c i d j) (ne : ¬ (c = d ∧ i = j)) : owI f s c i d j 1 = (!i) ∧ tch f s n c i (owC f s n c i d j 1) := by
  obtain ⟨z, z'⟩ := hang_no h ne
  have V1 := g_wide hf hs c0 c1 z
  have V2 := g_wide hf hs d0 d1 z'
  have p := ap_pos hf hs c0 c1 d0 d1 h ne
  by_cases e : (1 : Int) = apI f s c i d j
  · have e1 : owC f s n c i d j 1 = d := by unfold owC; rw [if_neg (by decide), if_pos e]
    have e2 : owI f s c i d j 1 = j := by unfold owI; rw [if_neg (by decide), if_pos e]
    rw [e1, e2]
    rw [ap_dI ne] at e
    cases i <;> cases j
    · exfalso
      have e' : (1 : Int) = dI c c 0 d d 0 := e
      unfold dI at e'; omega
    · have e' : (1 : Int) = dI c c 0 (bnL f s d) (bnH f s d) 1 := e
      unfold dI at e'
      unfold gNo at z'
      simp at z'
      have T := (touch_iff hf hs d0 z' c0).mp ⟨by omega, by omega⟩
      exact ⟨rfl, T.1, T.2, d1⟩
    · have e' : (1 : Int) = dI (bnL f s c) (bnH f s c) 1 d d 0 := e
      unfold dI at e'
      exact ⟨rfl, by show bnL f s c ≤ d ∧ d ≤ bnH f s c; omega⟩
    · exfalso
      have e' : (1 : Int) = dI (bnL f s c) (bnH f s c) 1 (bnL f s d) (bnH f s d) 1 := e
      unfold dI at e'; omega
  · obtain ⟨x0, x1, x2, x3, x4⟩ := ow_mid (m := 1) hf hs c0 c1 d0 d1 h ne (by decide) (by omega)
    have C := amL_cases (T := 1 - rsI i) (u := gL f s d j) V1.1 (show gH f s c i ≤ gL f s c i + 1 by have := rsI_nn i; omega)
    rcases x4 with ⟨ev, eI, eC⟩ | ⟨ev, eI, eL, eH⟩
    · cases i
      · exact absurd ev (by decide)
      · rw [eI]
        refine ⟨rfl, ?_⟩
        show bnL f s c ≤ owC f s n c true d j 1 ∧ owC f s n c true d j 1 ≤ bnH f s c
        rw [eC]
        have hz : (1 - rsI true) / 2 = 0 := by decide
        rw [hz] at C
        have g1 : gL f s c true = bnL f s c := rfl
        have g2 : gH f s c true = bnH f s c := rfl
        omega
    · cases i
      · rw [eI] at x0 ⊢
        refine ⟨rfl, ?_⟩
        unfold gNo at x0
        simp at x0
        have hz : (1 - rsI false) / 2 = 0 := by decide
        rw [hz] at C
        have g1 : gL f s c false = c := rfl
        have g2 : gH f s c false = c := rfl
        have T := (touch_iff (x := c) hf hs x1 x0 c0).mp ⟨by omega, by omega⟩
        exact ⟨T.1, T.2, x2⟩
      · exact absurd (by decide) ev
theorem nbr_far {f s n c d x : Int} {i j : Bool} (hf : 1 ≤ f) (hs : 0 ≤ s) (c0 : 0 ≤ c) (c1 : c < n) (d0 : 0 ≤ d) (d1 : d < n) (h : hang f s n c i d j) (ne : ¬ (c = d ∧ i = j)) (t : tch f s n c i x) (nn : ¬ x = owC f s n c i d j 1) : apI f s x (!i) d j = apI f s c i d j + 1 := by
  obtain ⟨z, z'⟩ := hang_no h ne
  obtain ⟨x0, x1, x2, x3, x4⟩ := nbr hf hs c0 c1 z t
  have p := ap_pos hf hs c0 c1 d0 d1 h ne
  obtain ⟨o0, o1, o2, o3, o4⟩ := ow_facts hf hs c0 c1 d0 d1 h (show (0 : Int) ≤ 1 by decide) (by omega)
  have hxd : hang f s n x (!i) d j := hang_tr (hang_sym x2) h
  obtain ⟨T1, T2⟩ := ap_tri hf hs c0 c1 x0 x1 d0 d1 x2 h
  have par : (apI f s x (!i) d j + apI f s c i d j) % 2 = 1 := by
    rw [ap_dI ne]
    by_cases q : x = d ∧ (!i) = j
    · obtain ⟨rfl, rfl⟩ := q
      rw [ap_self]
      cases i
      · show (0 + dI _ _ 0 _ _ 1) % 2 = 1
        unfold dI; omega
      · show (0 + dI _ _ 1 _ _ 0) % 2 = 1
        unfold dI; omega
    · rw [ap_dI q]
      have rj := rsI_nn j
      cases i
      · show (dI _ _ 1 _ _ _ + dI _ _ 0 _ _ _) % 2 = 1
        unfold dI; omega
      · show (dI _ _ 0 _ _ _ + dI _ _ 1 _ _ _) % 2 = 1
        unfold dI; omega
  apply Classical.byContradiction
  intro w
  have e : apI f s x (!i) d j = apI f s c i d j - 1 := by omega
  exact nn (uniq hf hs c0 c1 d0 d1 x0 x1 o0 o1 h x2 o2 (by omega) (by omega) (by omega)).1
section
variable (K : PySem.W.Frag)
def sp__law_touched : Sp := fun vs H Q _ => ∃ (a p q : Addr) (m f s n c : Int) (i : Bool), vs = [.ref a, .ref p, .int n, .ref q] ∧ Src H a m ∧ m < 2 ^ 40 ∧ Drm K H p f s ∧ Fc H q c i ∧ 0 ≤ c ∧ c < n ∧ n < 2 ^ 600 ∧ ¬ gNo f s n c i ∧
  ∀ (L : Addr) (H' : Hp) (xs : List V) (ks : List Int), H' L = some (.lst xs) → FcL H' (!i) xs ks → ks.length ≤ 4 → (∀ k ∈ ks, tch f s n c i k) → (i = true → ∀ x, tch f s n c i x → x ∈ ks) → (i = false → ∃ r, ks = abL f s c :: min (abH f s c) (n - 1) :: r) → Src H' a (m + 10) → But a H H' → Q (.ref L) H'
/-- one face, another one, of one piece -/
def sp__law_right : Sp := fun vs H Q _ => ∃ (a p q r : Addr) (m f s n c d : Int) (i j : Bool), vs = [.ref a, .ref p, .int n, .ref q, .ref r] ∧ Src H a m ∧ m < 2 ^ 40 ∧ Drm K H p f s ∧ Fc H q c i ∧ Fc H r d j ∧ 0 ≤ c ∧ c < n ∧ 0 ≤ d ∧ d < n ∧ n < 2 ^ 600 ∧ hang f s n c i d j ∧
  ∀ H', Src H' a (m + 10) → But a H H' → Q (.bl true) H'
end
section
variable {K : PySem.W.Frag} {σ : L2.St} {H : Hp} {Q : VK} {E : XK} {a p q r L : Addr} {f s n m c d : Int} {i j : Bool} {xs : List V} {ks : List Int}
theorem y_touched (hs : Src H a m) (hm : m < 2 ^ 40) (D : Drm K H p f s) (e : Fc H q c i) (c0 : 0 ≤ c) (c1 : c < n) (n2 : n < 2 ^ 600) (z : ¬ gNo f s n c i)
    (k : ∀ (L : Addr) (H' : Hp) (xs : List V) (ks : List Int), H' L = some (.lst xs) → FcL H' (!i) xs ks → ks.length ≤ 4 → (∀ k ∈ ks, tch f s n c i k) → (i = true → ∀ x, tch f s n c i x → x ∈ ks) → (i = false → ∃ r, ks = abL f s c :: min (abH f s c) (n - 1) :: r) → Src H' a (m + 10) → But a H H' → Q (.ref L) H') : sp__law_touched K [.ref a, .ref p, .int n, .ref q] H Q E :=
  ⟨a, p, q, m, f, s, n, c, i, rfl, hs, hm, D, e, c0, c1, n2, z, k⟩
theorem y_right (hs : Src H a m) (hm : m < 2 ^ 40) (D : Drm K H p f s) (e : Fc H q c i) (e' : Fc H r d j) (c0 : 0 ≤ c) (c1 : c < n) (d0 : 0 ≤ d) (d1 : d < n) (n2 : n < 2 ^ 600) (h : hang f s n c i d j) (k : ∀ H', Src H' a (m + 10) → But a H H' → Q (.bl true) H') : sp__law_right K [.ref a, .ref p, .int n, .ref q, .ref r] H Q E :=
  ⟨a, p, q, r, m, f, s, n, c, d, i, j, rfl, hs, hm, D, e, e', c0, c1, d0, d1, n2, h, k⟩
theorem FcL.dp : ∀ {vs : List V} {cs : List Int}, FcL H i vs cs → DpAll K H vs (cs.map fun c => PyData.tuple [.int c, .str (sdS i)])
  | [], [], _ => .nil
  | _ :: _, c :: _, ⟨⟨r, e, h⟩, t⟩ => by
    subst e
    exact .cons (.tup (.inl (.inl h)) (.cons (.int c) (.cons (.str _) .nil))) (FcL.dp t)
  | [], _ :: _, h => h.elim
  | _ :: _, [], h => h.elim
theorem fcs_lay (i : Bool) : ∀ cs : List Int, PyData.canLayAll0 (cs.map fun c => PyData.tuple [.int c, .str (sdS i)]) = true
  | [] => by simp [PyData.canLayAll0]
  | c :: r => by
    have h0 : PyData.strOk (sdS i) = true := by cases i <;> decide +kernel
    simp only [List.map_cons, PyData.canLayAll0, fcs_lay i r, Bool.and_true]
    generalize sdS i = x at *
    unfold PyData.canLay0
    simp [PyData.canLayAll0, PyData.canLay0, h0]
theorem fcs_depth (i : Bool) : ∀ cs : List Int, PyData.depthAll (cs.map fun c => PyData.tuple [.int c, .str (sdS i)]) ≤ 1
  | [] => by simp [PyData.depthAll]
  | c :: r => by
    have := fcs_depth i r
    simp only [List.map_cons, PyData.depthAll, PyData.depth]
    omega
theorem fcs_shaped (i : Bool) (cs : List Int) : SeqAt.shaped (.list (cs.map fun c => PyData.tuple [.int c, .str (sdS i)])) = true := by
  unfold SeqAt.shaped
  have h1 : PyData.canLay0 (.list (cs.map fun c => PyData.tuple [.int c, .str (sdS i)])) = true := by
    unfold PyData.canLay0
    exact fcs_lay i cs
  have h2 : PyData.depth (.list (cs.map fun c => PyData.tuple [.int c, .str (sdS i)])) ≤ 2 := by
    have := fcs_depth i cs
    unfold PyData.depth
    omega
  rw [h1]
  simp only [Bool.true_and, decide_eq_true_eq]
  exact Nat.le_trans h2 (by decide)
theorem fc_eqv {c d : Int} {i j : Bool} : PyData.eqv (.tuple [.int c, .str (sdS i)]) (.tuple [.int d, .str (sdS j)]) = decide (c = d ∧ i = j) := by
  rw [PyData.eqv]
  simp only [PyData.eqvAll, PyData.eqv]
  have e2 : (sdS i == sdS j) = (i == j) := by cases i <;> cases j <;> decide +kernel
  rw [e2]
  cases i <;> cases j <;> simp <;> (rw [Bool.eq_iff_iff]; simp)
theorem x_notInF (el : H L = some (.lst xs)) (fl : FcL H i xs ks) (e : Fc H p c i) (hm : c ∈ ks) (h : Q (.bl false) H) : rNotInD K (.ref p) (.ref L) H Q :=
  ⟨_, _, .tup (.inl (.inl e)) (.cons (.int c) (.cons (.str _) .nil)), .lst (sql el) fl.dp, shaped_fc _ _, fcs_shaped _ _, by
    have e : (List.map (fun c => PyData.tuple [.int c, .str (sdS i)]) ks).any (fun z => PyData.eqv z (.tuple [.int c, .str (sdS i)])) = true := by
      rw [List.any_map, List.any_eq_true]
      exact ⟨c, hm, by simp only [Function.comp]; rw [fc_eqv]; simp⟩
    rw [e]; exact h⟩
theorem x_rEqOut (h : Q (.bl (!i)) H) : rEq (.str (sdS i)) (.str "out") H Q := ⟨rfl, by
  have e : decide (V.str (sdS i) = V.str "out") = !i := by cases i <;> decide +kernel
  rw [e]; exact h⟩
theorem x_rNeOut (h : Q (.bl i) H) : rNe (.str (sdS i)) (.str "out") H Q := ⟨rfl, by
  have e : decide (V.str (sdS i) = V.str "out") = !i := by cases i <;> decide +kernel
  rw [e, Bool.not_not]; exact h⟩
theorem x_rNeInU (h : Q (.bl false) H) : rNe (.str (sdS (!false))) (.str "in") H Q := x_rNeIn (i := !false) h
/-- two empty lists -/
theorem x_eqE (hp : H p = some (.lst [])) (hq : H q = some (.lst [])) (h : Q (.bl true) H) : rEqD K (.ref p) (.ref q) H Q :=
  ⟨_, _, .lst (sql hp) .nil, .lst (sql hq) .nil, by decide +kernel, by decide +kernel, by
    have e : PyData.eqv (.list []) (.list []) = true := by
      rw [PyData.eqv]
      simp [PyData.eqvAll]
    rw [e]; exact h⟩
theorem x_neE (hp : H p = some (.lst [])) (hq : H q = some (.lst [])) (h : Q (.bl false) H) : rNeD K (.ref p) (.ref q) H Q :=
  ⟨_, _, .lst (sql hp) .nil, .lst (sql hq) .nil, by decide +kernel, by decide +kernel, by
    have e : PyData.eqv (.list []) (.list []) = true := by
      rw [PyData.eqv]
      simp [PyData.eqvAll]
    rw [e]; exact h⟩
end
end Wm

/-! What a piece shuts in. -/
namespace Wm
open PySem PySem.Spec PyProof.Rows L2
structure PcF (f s n lo hi fi la : Int) : Prop where
  b0 : 0 ≤ lo
  b1 : lo ≤ hi
  b2 : hi < la
  b3 : 0 ≤ fi
  b4 : fi ≤ la
  b5 : la < n
  up : ∀ k, lo ≤ k → k ≤ hi → ¬ n ≤ abL f s k ∧ fi ≤ abL f s k ∧ abL f s k ≤ min (abH f s k) (n - 1) ∧ min (abH f s k) (n - 1) ≤ la
  jn : ∀ k, lo ≤ k → k < hi → min (abH f s k) (n - 1) = abL f s (k + 1) ∧ ¬ n ≤ abL f s k ∧ ¬ n ≤ abL f s (k + 1)
  dn : ∀ k, fi ≤ k → k ≤ la → ¬ tOf f s k = 0 ∧ lo ≤ bnL f s k ∧ bnL f s k ≤ bnH f s k ∧ bnH f s k ≤ hi
  nl : 0 < lo → ¬ min (abH f s (lo - 1)) (n - 1) = abL f s lo
  nh : ¬ n ≤ abL f s (hi + 1) → ¬ min (abH f s hi) (n - 1) = abL f s (hi + 1)
  e1 : abL f s lo = fi
  e2 : min (abH f s hi) (n - 1) = la
theorem ab_ord {f s c : Int} (hf : 1 ≤ f) (hs : 0 ≤ s) (hc : 0 ≤ c) : abL f s c ≤ abH f s c := by
  obtain ⟨t, l, e', t0, l0, l1⟩ := cell_tl hf hs hc
  obtain ⟨aL, aH⟩ := ab_at hf hs t0 l0 l1
  obtain ⟨o0, o1, o2, _⟩ := over_facts l0 l1 (show f + t * s ≤ f + t * s + s by omega)
  rw [← e'] at aL aH
  omega
theorem hang_eqU {f s n c d : Int} {i j : Bool} (z : ¬ gNo f s n c i) (z' : ¬ gNo f s n d j) (h : hang f s n c i d j) : pFi f s (gL f s c i) = pFi f s (gL f s d j) ∧ pLa f s n (gL f s c i) = pLa f s n (gL f s d j) := by
  have h1 := h.2
  unfold pcU at h1
  rw [if_neg z, if_neg z'] at h1
  simp only [Option.some.injEq, Prod.mk.injEq] at h1
  exact h1
theorem pcf {f s n c : Int} {i : Bool} (hf : 1 ≤ f) (hs : 0 ≤ s) (c0 : 0 ≤ c) (c1 : c < n) (z : ¬ gNo f s n c i) : PcF f s n (pLo f s (gL f s c i)) (bnH f s (pLa f s n (gL f s c i))) (pFi f s (gL f s c i)) (pLa f s n (gL f s c i)) := by
  obtain ⟨U, L⟩ := hang_piece hf hs c0 c1 z
  obtain ⟨P0, P1, P2, P3, P4, P5, P6, P7, P8⟩ := piece_ends hf hs c0 c1 z
  obtain ⟨g0, g1, g2⟩ := gL_nn hf hs c0 c1 z
  have ip := (in_piece hf hs c0 c1 z).1
  obtain ⟨F0, F1, F2, F3, F4, F5, F6, F7, _⟩ := piece_facts hf hs g0 g2
  have LK := fun x => link (x := x) hf hs c0 c1 z
  have tg := tOf_nn hf hs g0
  have nz : ¬ tOf f s (pLa f s n (gL f s c i)) = 0 := by omega
  have BL := ab_bnH hf hs (show 0 ≤ pLa f s n (gL f s c i) by omega) nz
  -- what lies on a lower cell of the piece
  have UP : ∀ k, pLo f s (gL f s c i) ≤ k → k ≤ bnH f s (pLa f s n (gL f s c i)) → ∀ u, abL f s k ≤ u → u ≤ abH f s k → u < n → pFi f s (gL f s c i) ≤ u ∧ u ≤ pLa f s n (gL f s c i) := by
    intro k k1 k2 u u1 u2 u3
    obtain ⟨y0, y1, y2, y3⟩ := L k k1 k2
    obtain ⟨e1, e2⟩ := hang_eqU z y2 y3
    obtain ⟨T, x0⟩ := ab_turn hf hs y0 u1 u2
    have t0 := tOf_nn hf hs y0
    have nz : ¬ tOf f s u = 0 := by omega
    have W := (touch_iff hf hs x0 nz y0).mpr ⟨u1, u2⟩
    obtain ⟨s0, s1, s2, s3, s4, s5, s6⟩ := sec_touch hf hs x0 nz W.1 W.2
    have la : pLa f s n (gL f s k false) = min (pFi f s k + prt f s k) n - 1 := rfl
    have fi : pFi f s (gL f s k false) = pFi f s k := rfl
    omega
  -- a cell that has something in common with a neighbour is of its sector
  have NB : ∀ k u, 0 ≤ k → abL f s k ≤ u → u ≤ abH f s k → abL f s (k + 1) ≤ u → u ≤ abH f s (k + 1) → tOf f s k = tOf f s (k + 1) ∧ secN f s k = secN f s (k + 1) := by
    intro k u k0 a1 a2 b1 b2
    obtain ⟨T, x0⟩ := ab_turn hf hs k0 a1 a2
    have t0 := tOf_nn hf hs k0
    have nz : ¬ tOf f s u = 0 := by omega
    have W := (touch_iff hf hs x0 nz k0).mpr ⟨a1, a2⟩
    have W' := (touch_iff (x := k + 1) hf hs x0 nz (by omega)).mpr ⟨b1, b2⟩
    obtain ⟨s0, s1, s2, s3, s4, s5, s6⟩ := sec_touch hf hs x0 nz W.1 W.2
    obtain ⟨r0, r1, r2, r3, r4, r5, r6⟩ := sec_touch hf hs x0 nz W'.1 W'.2
    exact ⟨by omega, by rw [s3, r3]⟩
  have up : ∀ k, pLo f s (gL f s c i) ≤ k → k ≤ bnH f s (pLa f s n (gL f s c i)) → ¬ n ≤ abL f s k ∧ pFi f s (gL f s c i) ≤ abL f s k ∧ abL f s k ≤ min (abH f s k) (n - 1) ∧ min (abH f s k) (n - 1) ≤ pLa f s n (gL f s c i) := by
    intro k k1 k2
    obtain ⟨y0, y1, y2, y3⟩ := L k k1 k2
    have y2' : abL f s k < n := by unfold gNo at y2; simp at y2; omega
    have o := ab_ord hf hs y0
    have A := UP k k1 k2 (abL f s k) (Int.le_refl _) o y2'
    have B := UP k k1 k2 (min (abH f s k) (n - 1)) (by omega) (by omega) (by omega)
    exact ⟨by omega, A.1, by omega, B.2⟩
  have lohi : pLo f s (gL f s c i) ≤ bnH f s (pLa f s n (gL f s c i)) := by omega
  refine ⟨P0, lohi, BL.2.1, by omega, F4, F5, up, ?_, ?_, ?_, ?_, ?_, ?_⟩
  · intro k k1 k2
    obtain ⟨l0, l1, l2, _⟩ := LK k k1 (by omega)
    have := up k k1 (by omega)
    exact ⟨by omega, by omega, by omega⟩
  · intro k k1 k2
    obtain ⟨u0, u1, u2, u3, u4⟩ := U k k1 k2
    unfold gNo at u2
    simp at u2
    have W := (ab_bnH hf hs u0 u2).1
    have tk : tOf f s k = tOf f s (pLa f s n (gL f s c i)) := by
      obtain ⟨v0, v1, v2, v3, v4, v5, v6, v7, _⟩ := piece_facts hf hs (gL_nn (i := true) hf hs u0 u1 (by unfold gNo; simpa using u2)).1 (gL_nn (i := true) hf hs u0 u1 (by unfold gNo; simpa using u2)).2.2
      obtain ⟨e1, e2⟩ := hang_eqU z (show ¬ gNo f s n k true by unfold gNo; simpa using u2) u3
      rw [← e2] at v7
      have st := sec_touch hf hs u0 u2 (Int.le_refl _) W
      have e3 : gL f s k true = bnL f s k := rfl
      rw [e3] at v7
      omega
    exact ⟨u2, u4, W, bnH_mono hf hs u0 u2 (by omega) tk k2⟩
  · intro l0 e
    obtain ⟨y0, y1, y2, y3⟩ := L _ (Int.le_refl _) lohi
    have a := ab_next hf hs (show 0 ≤ pLo f s (gL f s c i) - 1 by omega)
    have ee : pLo f s (gL f s c i) - 1 + 1 = pLo f s (gL f s c i) := by omega
    rw [ee] at a
    have o := ab_ord hf hs y0
    obtain ⟨t, sc⟩ := NB (pLo f s (gL f s c i) - 1) (abL f s (pLo f s (gL f s c i))) (by omega) (by omega) (by omega) (by rw [ee]; omega) (by rw [ee]; exact o)
    rw [ee] at t sc
    have z1 : ¬ gNo f s n (pLo f s (gL f s c i) - 1) false := by unfold gNo at y2 ⊢; simp at y2 ⊢; omega
    have q := (piece_ends hf hs (show 0 ≤ pLo f s (gL f s c i) - 1 by omega) (by omega) z1).2.1
    have hh := hang_eq z y2 y3
    have q2 := (pc_of t sc).1
    have g3 : gL f s (pLo f s (gL f s c i) - 1) false = pLo f s (gL f s c i) - 1 := rfl
    have g4 : gL f s (pLo f s (gL f s c i)) false = pLo f s (gL f s c i) := rfl
    rw [g3] at q
    rw [g4] at hh
    omega
  · intro nh e
    obtain ⟨y0, y1, y2, y3⟩ := L _ lohi (Int.le_refl _)
    have o := ab_ord hf hs (show 0 ≤ bnH f s (pLa f s n (gL f s c i)) + 1 by omega)
    have a := ab_next hf hs y0
    obtain ⟨t, sc⟩ := NB (bnH f s (pLa f s n (gL f s c i))) (abL f s (bnH f s (pLa f s n (gL f s c i)) + 1)) y0 (by omega) (by omega) (Int.le_refl _) o
    have z1 : ¬ gNo f s n (bnH f s (pLa f s n (gL f s c i)) + 1) false := by unfold gNo; simp; omega
    have q := (in_piece hf hs (show 0 ≤ bnH f s (pLa f s n (gL f s c i)) + 1 by omega) (by omega) z1).1
    have hh := hang_of (c := bnH f s (pLa f s n (gL f s c i)) + 1) (d := bnH f s (pLa f s n (gL f s c i))) (i := false) (j := false) z1 y2 t.symm sc.symm (siz_of t.symm)
    have e3 := (hang_eqU z1 y2 hh).2
    have e4 := (hang_eqU z y2 y3).2
    rw [e3, ← e4] at q
    have g3 : gH f s (bnH f s (pLa f s n (gL f s c i)) + 1) false = bnH f s (pLa f s n (gL f s c i)) + 1 := rfl
    rw [g3] at q
    omega
  · have A := (up _ (Int.le_refl _) lohi).2.1
    obtain ⟨u0, u1, u2, u3, u4⟩ := U _ (Int.le_refl _) F4
    unfold gNo at u2
    simp at u2
    have W := (ab_bnH hf hs u0 u2).1
    have T := (touch_iff hf hs u0 u2 (show 0 ≤ bnL f s (pFi f s (gL f s c i)) by omega)).mp ⟨Int.le_refl _, W⟩
    have m := ab_le hf hs P0 u4
    omega
  · have A := (up _ lohi (Int.le_refl _)).2.2.2
    have T := (touch_iff hf hs (show 0 ≤ pLa f s n (gL f s c i) by omega) nz (show 0 ≤ bnH f s (pLa f s n (gL f s c i)) by omega)).mp ⟨BL.1, Int.le_refl _⟩
    omega
section
variable (K : PySem.W.Frag)
def sp__law_joined : Sp := fun vs H Q _ => ∃ (p : Addr) (f s n k : Int), vs = [.ref p, .int n, .int k] ∧ Drm K H p f s ∧ 0 ≤ k ∧ k + 1 < n ∧ n < 2 ^ 600 ∧ ∀ H', Same H H' → Q (.bl (decide (¬ n ≤ abL f s k ∧ ¬ n ≤ abL f s (k + 1) ∧ min (abH f s k) (n - 1) = abL f s (k + 1)))) H'
def sp__law_between : Sp := fun vs H Q _ => ∃ (a r : Addr) (m lo hi : Int), vs = [.ref a, .ref r] ∧ Src H a m ∧ m < 2 ^ 40 ∧ H r = some (.tup [.int lo, .int hi]) ∧ 0 ≤ lo ∧ lo ≤ hi ∧ hi < 2 ^ 600 ∧ ∀ (L : Addr) (H' : Hp) (x y : Int), lo ≤ x → x ≤ hi → lo ≤ y → y ≤ hi → H' L = some (.lst [.int lo, .int hi, .int x, .int y]) → L ≠ a → Src H' a (m + 10) → But a H H' → Q (.ref L) H'
def sp__law_shut : Sp := fun vs H Q _ => ∃ (a p r t : Addr) (m f s n lo hi fi la : Int), vs = [.ref a, .ref p, .int n, .ref r, .ref t] ∧ Src H a m ∧ m < 2 ^ 39 ∧ Drm K H p f s ∧ n < 2 ^ 600 ∧ H r = some (.tup [.int lo, .int hi]) ∧ H t = some (.tup [.int fi, .int la]) ∧ PcF f s n lo hi fi la ∧ ∀ H', Src H' a (m + 30) → But a H H' → Q (.bl true) H'
end
section
variable {K : PySem.W.Frag} {σ : L2.St} {H : Hp} {Q : VK} {E : XK} {a p q r t L : Addr} {f s n m c k lo hi fi la : Int} {i j : Bool} {v w v' w' v'' w'' : V}
theorem y_joined (d : Drm K H p f s) (h0 : 0 ≤ k) (h1 : k + 1 < n) (h2 : n < 2 ^ 600) (h : ∀ H', Same H H' → Q (.bl (decide (¬ n ≤ abL f s k ∧ ¬ n ≤ abL f s (k + 1) ∧ min (abH f s k) (n - 1) = abL f s (k + 1)))) H') : sp__law_joined K [.ref p, .int n, .int k] H Q E := ⟨p, f, s, n, k, rfl, d, h0, h1, h2, h⟩
theorem y_between (hs : Src H a m) (hm : m < 2 ^ 40) (e : H r = some (.tup [.int lo, .int hi])) (h0 : 0 ≤ lo) (h1 : lo ≤ hi) (h2 : hi < 2 ^ 600) (h : ∀ (L : Addr) (H' : Hp) (x y : Int), lo ≤ x → x ≤ hi → lo ≤ y → y ≤ hi → H' L = some (.lst [.int lo, .int hi, .int x, .int y]) → L ≠ a → Src H' a (m + 10) → But a H H' → Q (.ref L) H') : sp__law_between [.ref a, .ref r] H Q E := ⟨a, r, m, lo, hi, rfl, hs, hm, e, h0, h1, h2, h⟩
theorem y_shut (hs : Src H a m) (hm : m < 2 ^ 39) (d : Drm K H p f s) (n2 : n < 2 ^ 600) (e : H r = some (.tup [.int lo, .int hi])) (e' : H t = some (.tup [.int fi, .int la])) (F : PcF f s n lo hi fi la) (h : ∀ H', Src H' a (m + 30) → But a H H' → Q (.bl true) H') : sp__law_shut K [.ref a, .ref p, .int n, .ref r, .ref t] H Q E := ⟨a, p, r, t, m, f, s, n, lo, hi, fi, la, rfl, hs, hm, d, n2, e, e', F, h⟩
/-- beneath, above: whatever they tell -/
theorem y_beneathV (d : Drm K H p f s) (h0 : 0 ≤ c) (h1 : c < 2 ^ 700) (h : ∀ v H', Same H H' → ((tOf f s c = 0 ∧ v = .non) ∨ (¬ tOf f s c = 0 ∧ ∃ q, v = .ref q)) → Q v H') : sp_beneath K [.ref p, .int c] H Q E :=
  y_beneath d h0 h1 (fun z H' s' => h _ H' s' (.inl ⟨z, rfl⟩)) (fun z q H' s' _ => h _ H' s' (.inr ⟨z, q, rfl⟩))
theorem y_aboveV (d : Drm K H p f s) (h0 : 1 ≤ n) (h1 : 0 ≤ c) (h2 : c < n) (h3 : n < 2 ^ 700) (h : ∀ v H', Same H H' → ((n ≤ abL f s c ∧ v = .non) ∨ (¬ n ≤ abL f s c ∧ ∃ q, v = .ref q)) → Q v H') : sp_above K [.ref p, .int n, .int c] H Q E :=
  y_above d h0 h1 h2 h3 (fun z H' s' => h _ H' s' (.inl ⟨z, rfl⟩)) (fun z q H' s' _ => h _ H' s' (.inr ⟨z, q, rfl⟩))
theorem PairV.set {D : Addr} {ys zs : List V} (e : H D = some (.lst ys)) : ∀ {v : V} {o : Option (Int × Int)}, PairV H v o → PairV (upd H D (.lst zs)) v o
  | _, none, h => h
  | _, some (_, _), ⟨r, e1, h⟩ => ⟨r, e1, (upd_ne (ne_of h e (by intro z; cases z))).trans h⟩
theorem x_rep2 {x : V} {l : Addr} (e : H l = some (.lst [x])) (h : ∀ p, H p = none → Q (.ref p) (upd H p (.lst [x, x]))) : rRep (.ref l) (.int 2) H Q := ⟨l, 2, [x], rfl, rfl, e, by decide, by decide, Nat.le_trans (Nat.le_of_ble_eq_true (m := 1000) rfl) (by decide), h⟩
/-- two lists of two pieces that are one -/
theorem x_neLP2 {o u : Option (Int × Int)} {r1 r2 t1 t2 : Addr} {v1 w1 v2 w2 v3 w3 v4 w4 : V} (hp : H p = some (.lst [.ref r1, .ref r2])) (hq : H q = some (.lst [.ref t1, .ref t2])) (e1 : H r1 = some (.tup [v1, w1])) (e2 : H r2 = some (.tup [v2, w2])) (e3 : H t1 = some (.tup [v3, w3])) (e4 : H t2 = some (.tup [v4, w4]))
    (a1 : PairV H v1 o) (b1 : PairV H w1 u) (a2 : PairV H v2 o) (b2 : PairV H w2 u) (a3 : PairV H v3 o) (b3 : PairV H w3 u) (a4 : PairV H v4 o) (b4 : PairV H w4 u) (h : Q (.bl false) H) : rNeD K (.ref p) (.ref q) H Q := by
  have sh : SeqAt.shaped (.list [.tuple [pdO o, pdO u], .tuple [pdO o, pdO u]]) = true := by
    unfold SeqAt.shaped
    have h1 : PyData.canLay0 (.list [.tuple [pdO o, pdO u], .tuple [pdO o, pdO u]]) = true := by
      unfold PyData.canLay0
      simp only [PyData.canLayAll0, PyData.canLay0, lay_pd]
      decide
    have h2 : PyData.depth (.list [.tuple [pdO o, pdO u], .tuple [pdO o, pdO u]]) ≤ 3 := by
      have a := depth_pd o
      have b := depth_pd u
      simp only [PyData.depth, PyData.depthAll]
      omega
    rw [h1]
    simp only [Bool.true_and, decide_eq_true_eq]
    exact Nat.le_trans h2 (by decide)
  refine ⟨_, _, .lst (sql hp) (.cons (.tup (.inl (.inl e1)) (.cons a1.dp (.cons b1.dp .nil))) (.cons (.tup (.inl (.inl e2)) (.cons a2.dp (.cons b2.dp .nil))) .nil)), .lst (sql hq) (.cons (.tup (.inl (.inl e3)) (.cons a3.dp (.cons b3.dp .nil))) (.cons (.tup (.inl (.inl e4)) (.cons a4.dp (.cons b4.dp .nil))) .nil)), sh, sh, ?_⟩
  have e : PyData.eqv (.list [.tuple [pdO o, pdO u], .tuple [pdO o, pdO u]]) (.list [.tuple [pdO o, pdO u], .tuple [pdO o, pdO u]]) = true := by
    simp only [PyData.eqv, PyData.eqvAll, eqv_pd]
    simp
  rw [e]
  exact h
end
end Wm

/-! When ink is on a whole piece; its ends and its middle. -/
namespace Wm
open PySem PySem.Spec PyProof.Rows L2
/-- the grounds of a piece's first and last upper ones -/
structure PcE (f s n lo hi fi la e0 y0 : Int) : Prop extends PcF f s n lo hi fi la where
  fiL : bnL f s fi = lo
  fiH : bnH f s fi = e0
  laL : bnL f s la = y0
  laH : bnH f s la = hi
  c0 : e0 = lo
  c1 : lo ≤ e0 ∧ e0 ≤ lo + 1 ∧ e0 ≤ hi
  c2 : lo ≤ y0 ∧ y0 ≤ hi ∧ hi ≤ y0 + 1
  c3 : fi < la → e0 ≤ y0
  c4 : fi = la → e0 = hi ∧ y0 = lo
  af : ∀ w, lo ≤ w → w ≤ hi → (abL f s w = fi ↔ w ≤ e0)
  al : ∀ w, lo ≤ w → w ≤ hi → (min (abH f s w) (n - 1) = la ↔ y0 ≤ w)
theorem pce {f s n c : Int} {i : Bool} (hf : 1 ≤ f) (hs : 0 ≤ s) (c0 : 0 ≤ c) (c1 : c < n) (z : ¬ gNo f s n c i) :
    PcE f s n (pLo f s (gL f s c i)) (bnH f s (pLa f s n (gL f s c i))) (pFi f s (gL f s c i)) (pLa f s n (gL f s c i)) (bnH f s (pFi f s (gL f s c i))) (bnL f s (pLa f s n (gL f s c i))) := by
  have F := pcf hf hs c0 c1 z
  generalize hlo : pLo f s (gL f s c i) = lo at *
  generalize hhi : bnH f s (pLa f s n (gL f s c i)) = hi at *
  generalize hfi : pFi f s (gL f s c i) = fi at *
  generalize hla : pLa f s n (gL f s c i) = la at *
  clear hlo hfi hla
  obtain ⟨b0, b1, b2, b3, b4, b5, up, jn, dn, nl, nh, e1, e2⟩ := id F
  obtain ⟨f1, f2, f3, f4⟩ := dn fi (Int.le_refl _) b4
  obtain ⟨l1, l2, l3, l4⟩ := dn la b4 (Int.le_refl _)
  have ol := ab_ord hf hs b0
  have oh := ab_ord hf hs (show 0 ≤ hi by omega)
  have T1 := (touch_iff hf hs b3 f1 b0).mpr ⟨by omega, by omega⟩
  have wf := bn_wide hf hs b3 f1
  have wl := bn_wide hf hs (show 0 ≤ la by omega) l1
  have af : ∀ w, lo ≤ w → w ≤ hi → (abL f s w = fi ↔ w ≤ bnH f s fi) := by
    intro w w1 w2
    obtain ⟨u1, u2, u3, u4⟩ := up w w1 w2
    constructor
    · intro e
      exact ((touch_iff hf hs b3 f1 (show 0 ≤ w by omega)).mpr ⟨by omega, by omega⟩).2
    · intro h
      have := ((touch_iff hf hs b3 f1 (show 0 ≤ w by omega)).mp ⟨by omega, h⟩).1
      omega
  have al : ∀ w, lo ≤ w → w ≤ hi → (min (abH f s w) (n - 1) = la ↔ bnL f s la ≤ w) := by
    intro w w1 w2
    obtain ⟨u1, u2, u3, u4⟩ := up w w1 w2
    constructor
    · intro e
      exact ((touch_iff hf hs (show 0 ≤ la by omega) l1 (show 0 ≤ w by omega)).mpr ⟨by omega, by omega⟩).1
    · intro h
      have := ((touch_iff hf hs (show 0 ≤ la by omega) l1 (show 0 ≤ w by omega)).mp ⟨h, by omega⟩).2
      omega
  have e0 : bnH f s fi = lo := by
    apply Classical.byContradiction
    intro q
    obtain ⟨t, l, e, t0, l0, l1', e1', n2, n3, q0, q1'⟩ := bn_rng hf hs b3 f1
    have bb := bg_ge hf hs t0
    have ts := mul_nn t0 hs
    have A := ((touch_iff (x := lo + 1) hf hs b3 f1 (by omega)).mp ⟨by omega, by omega⟩).1
    have m1 := (ab_at (l := lo - Bg f s t) hf hs t0 (by omega) (by omega)).1
    have m2 := (ab_at (l := lo - Bg f s t + 1) hf hs t0 (by omega) (by omega)).1
    have k1 : Bg f s t + (lo - Bg f s t) = lo := by omega
    have k2 : Bg f s t + (lo - Bg f s t + 1) = lo + 1 := by omega
    rw [k1] at m1
    rw [k2] at m2
    generalize lo - Bg f s t = v at *
    have k3 : v * (f + t * s + s) + (f + t * s) ≤ (v + 1) * (f + t * s + s) := by
      have : (v + 1) * (f + t * s + s) = v * (f + t * s + s) + (f + t * s + s) := by grind
      omega
    have k4 := Int.ediv_le_ediv (show 0 < f + t * s by omega) k3
    have k5 : (v * (f + t * s + s) + (f + t * s)) / (f + t * s) = v * (f + t * s + s) / (f + t * s) + 1 := by
      rw [Int.add_ediv_of_dvd_right (Int.dvd_refl _), Int.ediv_self (by omega)]
    omega
  refine ⟨F, by omega, rfl, rfl, by omega, e0, ⟨by omega, by omega, by omega⟩, ⟨by omega, by omega, by omega⟩, ?_, ?_, af, al⟩
  · intro lt
    apply Classical.byContradiction
    intro q
    have q1 : bnL f s la = lo := by omega
    have q2 : bnH f s fi = lo + 1 := by omega
    obtain ⟨t, l, e, t0, l0, l1', e1', n2, n3, q0, q1'⟩ := bn_rng hf hs b3 f1
    have bb := bg_ge hf hs t0
    have S := (ab_step (l := lo - Bg f s t) hf hs t0 (by omega) (by omega)).1
    have e2' : Bg f s t + (lo - Bg f s t) = lo := by omega
    rw [e2'] at S
    have A := ((touch_iff (x := lo + 1) hf hs b3 f1 (by omega)).mp ⟨by omega, by omega⟩).1
    have B := ((touch_iff (x := lo) hf hs (show 0 ≤ la by omega) l1 b0).mp ⟨by omega, by omega⟩).2
    omega
  · rintro rfl
    exact ⟨by omega, by omega⟩
/-- ink is on the whole piece -/
def Wh (lo hi e0 y0 fi la a b x T : Int) (j : Bool) : Prop := 0 ≤ T ∧ a - T / 2 ≤ lo ∧ hi ≤ b + T / 2 ∧ ((1 ≤ T ∧ max lo (a - (T - 1) / 2) ≤ e0 ∧ y0 ≤ min hi (b + (T - 1) / 2)) ∨ (T = 0 ∧ j = true ∧ x = fi ∧ x = la))
theorem whole_iff {f s n lo hi fi la e0 y0 x B : Int} {j : Bool} (hf : 1 ≤ f) (hs : 0 ≤ s) (F : PcE f s n lo hi fi la e0 y0) (x0 : 0 ≤ x) (x1 : x < n) (z : ¬ gNo f s n x j) (hB : 0 ≤ B)
    (h1 : pLo f s (gL f s x j) = lo) (h2 : bnH f s (pLa f s n (gL f s x j)) = hi) (hg : lo ≤ gL f s x j) (hh : gH f s x j ≤ hi) :
    (reL f s n x j B = some (lo, hi) ∧ reU f s n x j B = some (fi, la)) ↔ Wh lo hi e0 y0 fi la (gL f s x j) (gH f s x j) x (B - rsI j) j := by
  have W := g_wide hf hs x0 x1 z
  have rj := rsI_nn j
  unfold reL reU Wh
  rw [if_neg z, if_neg z, h1, h2]
  have c1 := F.c1
  have c2 := F.c2
  have b1 := F.b1
  generalize gL f s x j = a at *
  generalize gH f s x j = b at *
  by_cases t0 : B - rsI j < 0
  · rw [if_pos t0]
    constructor
    · rintro ⟨h, _⟩; cases h
    · rintro ⟨h, _⟩; omega
  · rw [if_neg t0]
    by_cases t1 : B - rsI j - 1 < 0
    · rw [if_pos t1]
      have e : B - rsI j = 0 := by omega
      rw [e]
      cases j
      · constructor
        · rintro ⟨_, h⟩; simp at h
        · rintro ⟨_, _, _, h | h⟩
          · omega
          · simp at h
      · simp only [Option.some.injEq, Prod.mk.injEq, if_true]
        unfold wdL wdH
        constructor
        · rintro ⟨⟨p, q⟩, r, s'⟩
          exact ⟨by decide, by omega, by omega, .inr ⟨trivial, trivial, r, s'⟩⟩
        · rintro ⟨_, p, q, h | ⟨_, _, r, s'⟩⟩
          · omega
          · exact ⟨⟨by omega, by omega⟩, r, s'⟩
    · rw [if_neg t1]
      simp only [Option.some.injEq, Prod.mk.injEq]
      generalize B - rsI j = T at *
      have A1 := F.af (wdL lo a (T - 1)) (by unfold wdL; omega) (by unfold wdL; omega)
      have A2 := F.al (wdH hi b (T - 1)) (by unfold wdH; omega) (by unfold wdH; omega)
      rw [A1, A2]
      unfold wdL wdH
      constructor
      · rintro ⟨⟨p, q⟩, r, s'⟩
        exact ⟨by omega, by omega, by omega, .inl ⟨by omega, by omega, by omega⟩⟩
      · rintro ⟨_, p, q, ⟨_, r, s'⟩ | ⟨h, _⟩⟩
        · exact ⟨⟨by omega, by omega⟩, by omega, by omega⟩
        · omega
/-- what a face reaches is no farther than the beats -/
theorem wh_far {lo hi e0 y0 fi la a b x B r : Int} {j : Bool} (hr : r = rsI j) (w : a ≤ b ∧ b ≤ a + r) (g : lo ≤ a ∧ b ≤ hi) (c1 : lo ≤ e0 ∧ e0 ≤ lo + 1 ∧ e0 ≤ hi) (c2 : lo ≤ y0 ∧ y0 ≤ hi ∧ hi ≤ y0 + 1) (h : Wh lo hi e0 y0 fi la a b x (B - r) j) :
    dI lo e0 1 a b r ≤ B + (if x = fi ∧ j = true then 2 else 0) ∧ dI hi hi 0 a b r ≤ B ∧ dI y0 hi 1 a b r ≤ B + (if x = la ∧ j = true then 2 else 0) := by
  have rj := rsI_nn j
  obtain ⟨h1, h2, h3, h4⟩ := h
  unfold dI
  rcases h4 with ⟨t, p, q⟩ | ⟨t, rfl, rfl, e⟩
  · refine ⟨?_, ?_, ?_⟩
    · split <;> omega
    · omega
    · split <;> omega
  · have r1 : r = 1 := hr
    refine ⟨?_, ?_, ?_⟩
    · rw [if_pos ⟨rfl, rfl⟩]; omega
    · omega
    · rw [if_pos ⟨e, rfl⟩]; omega
/-- ink from a face is on the whole of a piece behind so many beats -/
def RW (f s n lo hi fi la x : Int) (j : Bool) (B : Int) : Prop := reL f s n x j B = some (lo, hi) ∧ reU f s n x j B = some (fi, la)
/-- a face of the piece -/
structure InP (f s n c : Int) (i : Bool) (x : Int) (j : Bool) : Prop where
  x0 : 0 ≤ x
  x1 : x < n
  z : ¬ gNo f s n x j
  h : hang f s n c i x j
section
variable {f s n c x B : Int} {i j : Bool}
theorem InP.eqs (hf : 1 ≤ f) (hs : 0 ≤ s) (z : ¬ gNo f s n c i) (p : InP f s n c i x j) :
    pLo f s (gL f s x j) = pLo f s (gL f s c i) ∧ bnH f s (pLa f s n (gL f s x j)) = bnH f s (pLa f s n (gL f s c i)) ∧ pFi f s (gL f s x j) = pFi f s (gL f s c i) ∧ pLa f s n (gL f s x j) = pLa f s n (gL f s c i) ∧
    pLo f s (gL f s c i) ≤ gL f s x j ∧ gH f s x j ≤ bnH f s (pLa f s n (gL f s c i)) := by
  obtain ⟨e1, e2⟩ := hang_eq z p.z p.h
  obtain ⟨e3, e4⟩ := hang_eqU z p.z p.h
  have q1 := (piece_ends hf hs p.x0 p.x1 p.z).2.1
  have q2 := (in_piece hf hs p.x0 p.x1 p.z).1
  rw [← e1] at q1
  rw [← e4] at q2
  exact ⟨e1.symm, e2.symm, e3.symm, e4.symm, q1, q2⟩
theorem rw_iff (hf : 1 ≤ f) (hs : 0 ≤ s) (c0 : 0 ≤ c) (c1 : c < n) (z : ¬ gNo f s n c i) (p : InP f s n c i x j) (hB : 0 ≤ B) :
    RW f s n (pLo f s (gL f s c i)) (bnH f s (pLa f s n (gL f s c i))) (pFi f s (gL f s c i)) (pLa f s n (gL f s c i)) x j B ↔
    Wh (pLo f s (gL f s c i)) (bnH f s (pLa f s n (gL f s c i))) (bnH f s (pFi f s (gL f s c i))) (bnL f s (pLa f s n (gL f s c i))) (pFi f s (gL f s c i)) (pLa f s n (gL f s c i)) (gL f s x j) (gH f s x j) x (B - rsI j) j := by
  obtain ⟨e1, e2, e3, e4, e5, e6⟩ := p.eqs hf hs z
  exact whole_iff hf hs (pce hf hs c0 c1 z) p.x0 p.x1 p.z hB e1 e2 e5 e6
/-- what is on the whole piece is no farther from its ends -/
theorem rw_far (hf : 1 ≤ f) (hs : 0 ≤ s) (c0 : 0 ≤ c) (c1 : c < n) (z : ¬ gNo f s n c i) (p : InP f s n c i x j) (hB : 0 ≤ B)
    (h : RW f s n (pLo f s (gL f s c i)) (bnH f s (pLa f s n (gL f s c i))) (pFi f s (gL f s c i)) (pLa f s n (gL f s c i)) x j B) :
    apI f s x j (pFi f s (gL f s c i)) true ≤ B ∧ apI f s x j (bnH f s (pLa f s n (gL f s c i))) false ≤ B ∧ apI f s x j (pLa f s n (gL f s c i)) true ≤ B := by
  have w := (rw_iff hf hs c0 c1 z p hB).mp h
  obtain ⟨e1, e2, e3, e4, e5, e6⟩ := p.eqs hf hs z
  have F := pce hf hs c0 c1 z
  have V := g_wide hf hs p.x0 p.x1 p.z
  have w := wh_far rfl V ⟨e5, e6⟩ F.c1 F.c2 w
  have fL := F.fiL
  have lL := F.laL
  have lH := F.laH
  generalize pLo f s (gL f s c i) = lo at *
  generalize pFi f s (gL f s c i) = fi at *
  generalize pLa f s n (gL f s c i) = la at *
  obtain ⟨w1, w2, w3⟩ := w
  refine ⟨?_, ?_, ?_⟩
  · by_cases q : x = fi ∧ j = true
    · unfold apI; rw [if_pos q]; exact hB
    · rw [if_neg q] at w1
      rw [ap_sym, ap_dI (fun y => q ⟨y.1.symm, y.2.symm⟩)]
      show dI (bnL f s fi) (bnH f s fi) 1 _ _ _ ≤ B
      rw [fL]
      omega
  · by_cases q : x = bnH f s la ∧ j = false
    · unfold apI; rw [if_pos q]; exact hB
    · rw [ap_sym, ap_dI (fun y => q ⟨y.1.symm, y.2.symm⟩)]
      exact w2
  · by_cases q : x = la ∧ j = true
    · unfold apI; rw [if_pos q]; exact hB
    · rw [if_neg q] at w3
      rw [ap_sym, ap_dI (fun y => q ⟨y.1.symm, y.2.symm⟩)]
      show dI (bnL f s la) (bnH f s la) 1 _ _ _ ≤ B
      omega
end
/-- the piece's ends, and its middle -/
theorem ctr {f s n c : Int} {i : Bool} (hf : 1 ≤ f) (hs : 0 ≤ s) (c0 : 0 ≤ c) (c1 : c < n) (z : ¬ gNo f s n c i) {lo hi fi la : Int} (hlo : pLo f s (gL f s c i) = lo) (hhi : bnH f s (pLa f s n (gL f s c i)) = hi) (hfi : pFi f s (gL f s c i) = fi) (hla : pLa f s n (gL f s c i) = la) :
    1 ≤ enM f s n c i ∧ InP f s n c i (enS f s n c i) (enSi f s n c i) ∧ InP f s n c i (enE f s n c i) (enEi f s n c i) ∧ apI f s (enS f s n c i) (enSi f s n c i) (enE f s n c i) (enEi f s n c i) = enM f s n c i ∧
    RW f s n lo hi fi la (enS f s n c i) (enSi f s n c i) (enM f s n c i) ∧ RW f s n lo hi fi la (enE f s n c i) (enEi f s n c i) (enM f s n c i) ∧
    (∀ x j B, InP f s n c i x j → 0 ≤ B → RW f s n lo hi fi la x j B → apI f s x j (enS f s n c i) (enSi f s n c i) ≤ B ∧ apI f s x j (enE f s n c i) (enEi f s n c i) ≤ B) ∧
    (∀ m, enM f s n c i - 1 ≤ 2 * m → 2 * m ≤ enM f s n c i + 1 → InP f s n c i (mdC f s n c i m) (mdI f s n c i m) ∧ RW f s n lo hi fi la (mdC f s n c i m) (mdI f s n c i m) ((enM f s n c i + 1) / 2)) := by
  obtain ⟨E0, E1, E2, E3, E4, E5, E6⟩ := ends_ok (i := i) hf hs c0 c1
  have F := pce hf hs c0 c1 z
  have RI := fun {x B : Int} {j : Bool} (p : InP f s n c i x j) (hB : 0 ≤ B) => rw_iff hf hs c0 c1 z p hB
  have RF := fun {x B : Int} {j : Bool} (p : InP f s n c i x j) (hB : 0 ≤ B) h => rw_far hf hs c0 c1 z p hB h
  obtain ⟨HU, HL⟩ := hang_piece hf hs c0 c1 z
  have b4 := F.b4
  have b2 := F.b2
  have b1 := F.b1
  have F0 := F.c0 ; have F1 := F.c1 ; have F2 := F.c2 ; have F3 := F.c3 ; have F4 := F.c4
  obtain ⟨u0, u1, u2, u3, _⟩ := HU _ (Int.le_refl _) b4
  obtain ⟨v0, v1, v2, v3, _⟩ := HU _ b4 (Int.le_refl _)
  obtain ⟨l0, l1, l2, l3⟩ := HL _ b1 (Int.le_refl _)
  have IF : InP f s n c i (pFi f s (gL f s c i)) true := ⟨u0, u1, u2, u3⟩
  have IL : InP f s n c i (pLa f s n (gL f s c i)) true := ⟨v0, v1, v2, v3⟩
  have IH : InP f s n c i (bnH f s (pLa f s n (gL f s c i))) false := ⟨l0, l1, l2, l3⟩
  have fL := F.fiL
  have lL := F.laL
  have lH := F.laH
  have eS : enS f s n c i = pFi f s (gL f s c i) := by unfold enS; rw [if_neg z]
  have eSi : enSi f s n c i = true := by unfold enSi; rw [if_neg z]
  have eLo : enLo f s n c i = 1 + 2 * (bnH f s (pLa f s n (gL f s c i)) - bnH f s (pFi f s (gL f s c i))) := by
    unfold enLo
    rw [ap_dI (by rintro ⟨_, q⟩; cases q)]
    show dI (bnL f s (pFi f s (gL f s c i))) (bnH f s (pFi f s (gL f s c i))) 1 (bnH f s (pLa f s n (gL f s c i))) (bnH f s (pLa f s n (gL f s c i))) 0 = _
    rw [fL]
    unfold dI
    omega
  have eUp : enUp f s n c i = if pFi f s (gL f s c i) = pLa f s n (gL f s c i) then 0 else 2 + 2 * (bnL f s (pLa f s n (gL f s c i)) - bnH f s (pFi f s (gL f s c i))) := by
    unfold enUp
    by_cases q : pFi f s (gL f s c i) = pLa f s n (gL f s c i)
    · rw [if_pos q, ← q, ap_self]
    · rw [if_neg q, ap_dI (fun y => q y.1)]
      show dI (bnL f s (pFi f s (gL f s c i))) (bnH f s (pFi f s (gL f s c i))) 1 (bnL f s (pLa f s n (gL f s c i))) (bnH f s (pLa f s n (gL f s c i))) 1 = _
      rw [fL, lH]
      unfold dI
      have := F3 (by omega)
      omega
  have eM : enM f s n c i = if enLo f s n c i < enUp f s n c i then enUp f s n c i else enLo f s n c i := by unfold enM; rw [if_neg z]
  have eE : enE f s n c i = if enLo f s n c i < enUp f s n c i then pLa f s n (gL f s c i) else bnH f s (pLa f s n (gL f s c i)) := by unfold enE; rw [if_neg z]
  have eEi : enEi f s n c i = decide (enLo f s n c i < enUp f s n c i) := by unfold enEi; rw [if_neg z]
  have MID := fun m => ow_mid (m := m) hf hs E0 E1 E2 E3 (hang_tr (hang_sym E4) E5)
  unfold mdC mdI
  have gLf : gL f s (pFi f s (gL f s c i)) true = pLo f s (gL f s c i) := fL
  have gHf : gH f s (pFi f s (gL f s c i)) true = bnH f s (pFi f s (gL f s c i)) := rfl
  have gLl : gL f s (pLa f s n (gL f s c i)) true = bnL f s (pLa f s n (gL f s c i)) := rfl
  have gHl : gH f s (pLa f s n (gL f s c i)) true = bnH f s (pLa f s n (gL f s c i)) := rfl
  have hhi' : bnH f s la = hi := by rw [← hla]; exact hhi
  clear F HU HL E4 E5 u0 u1 u2 u3 v0 v1 v2 v3 l0 l1 l2 l3 fL lL lH b2 hhi
  simp only [hlo, hfi, hla, hhi'] at *
  clear hlo hfi hla hhi'
  generalize bnH f s fi = e0 at *
  generalize bnL f s la = y0 at *
  generalize enLo f s n c i = xl at *
  generalize enUp f s n c i = xu at *
  have rt : rsI true = 1 := rfl
  have rf : rsI false = 0 := rfl
  have WA : ∀ a b x T (j : Bool), 0 ≤ T → a - T / 2 ≤ lo → hi ≤ b + T / 2 → (1 ≤ T → max lo (a - (T - 1) / 2) ≤ e0 ∧ y0 ≤ min hi (b + (T - 1) / 2)) → (T = 0 → j = true ∧ x = fi ∧ x = la) → Wh lo hi e0 y0 fi la a b x T j := by
    intro a b x T j t0 h1 h2 h3 h4
    refine ⟨t0, h1, h2, ?_⟩
    by_cases q : T = 0
    · exact .inr ⟨q, h4 q⟩
    · exact .inl ⟨by omega, h3 (by omega)⟩
  have hlh : hi ≤ lo + 1 → True := fun _ => trivial
  by_cases cs : xl < xu
  · rw [if_pos cs] at eM eE
    rw [decide_eq_true cs] at eEi
    have nfl : ¬ fi = la := by
      intro q
      rw [if_pos q] at eUp
      omega
    rw [if_neg nfl] at eUp
    have c3 := F3 (by omega)
    have yh : y0 = hi := by omega
    rw [eS, eSi, eE, eEi] at MID E6
    rw [eM] at E6
    rw [eS, eSi, eE, eEi, eM]
    have ne : ¬ (fi = la ∧ true = true) := fun q => nfl q.1
    refine ⟨by omega, IF, IL, E6.symm, (RI IF (by omega)).mpr ?_, (RI IL (by omega)).mpr ?_, fun x j B p hB h => ⟨(RF p hB h).1, (RF p hB h).2.2⟩, fun m m1 m2 => ?_⟩
    · rw [gLf, gHf, rt]
      exact WA _ _ _ _ _ (by omega) (by omega) (by omega) (by omega) (by omega)
    · rw [gLl, gHl, rt]
      exact WA _ _ _ _ _ (by omega) (by omega) (by omega) (by omega) (by omega)
    · obtain ⟨x0, x1, x2, x3, x4⟩ := MID m ne (by omega) (by omega)
      have C := amL_cases (a := lo) (b := e0) (u := y0) (T := m - 1) F1.1 F1.2.1
      rw [gLf, gHf, gLl, rt] at x4
      have p : InP f s n c i (owC f s n fi true la true m) (owI f s fi true la true m) := ⟨x1, x2, x0, hang_tr IF.h x3⟩
      refine ⟨p, (RI p (by omega)).mpr ?_⟩
      rcases x4 with ⟨ev, eI, eC⟩ | ⟨ev, eI, eL, eH⟩
      · rw [eI]
        show Wh _ _ _ _ _ _ (owC f s n fi true la true m) (owC f s n fi true la true m) _ _ _
        rw [rf]
        exact WA _ _ _ _ _ (by omega) (by omega) (by omega) (by omega) (by omega)
      · rw [eI]
        show Wh _ _ _ _ _ _ (bnL f s (owC f s n fi true la true m)) (bnH f s (owC f s n fi true la true m)) _ _ _
        rw [rt]
        exact WA _ _ _ _ _ (by omega) (by omega) (by omega) (by omega) (by omega)
  · rw [if_neg cs] at eM eE
    rw [decide_eq_false cs] at eEi
    have UPc : (fi = la ∧ e0 = hi ∧ y0 = lo) ∨ (¬ fi = la ∧ y0 < hi ∧ e0 ≤ y0) := by
      by_cases q : fi = la
      · exact .inl ⟨q, F4 q⟩
      · rw [if_neg q] at eUp
        have := F3 (by omega)
        exact .inr ⟨q, by omega, by omega⟩
    rw [eS, eSi, eE, eEi] at MID E6
    rw [eM] at E6
    rw [eS, eSi, eE, eEi, eM]
    have ne : ¬ (fi = hi ∧ true = false) := fun q => by cases q.2
    have gLh : gL f s hi false = hi := rfl
    have gHh : gH f s hi false = hi := rfl
    have R1 : RW f s n lo hi fi la fi true xl := (RI IF (by omega)).mpr (by
      rw [gLf, gHf, rt]
      exact WA _ _ _ _ _ (by omega) (by omega) (by omega) (by omega) (fun q => ⟨rfl, rfl, by omega⟩))
    have R2 : RW f s n lo hi fi la hi false xl := (RI IH (by omega)).mpr (by
      rw [gLh, gHh, rf]
      exact WA _ _ _ _ _ (by omega) (by omega) (by omega) (by omega) (by omega))
    refine ⟨by omega, IF, IH, E6.symm, R1, R2, fun x j B p hB h => ⟨(RF p hB h).1, (RF p hB h).2.1⟩, fun m m1 m2 => ?_⟩
    by_cases k0 : m = 0
    · have o1 : owC f s n fi true hi false m = fi := by unfold owC; rw [if_pos k0]
      have o2 : owI f s fi true hi false m = true := by unfold owI; rw [if_pos k0]
      rw [o1, o2]
      have : (xl + 1) / 2 = xl := by omega
      rw [this]
      exact ⟨IF, R1⟩
    by_cases k1 : m = xl
    · have k2 : m = apI f s fi true hi false := by omega
      have o1 : owC f s n fi true hi false m = hi := by unfold owC; rw [if_neg k0, if_pos k2]
      have o2 : owI f s fi true hi false m = false := by unfold owI; rw [if_neg k0, if_pos k2]
      rw [o1, o2]
      have : (xl + 1) / 2 = xl := by omega
      rw [this]
      exact ⟨IH, R2⟩
    · obtain ⟨x0, x1, x2, x3, x4⟩ := MID m ne (by omega) (by omega)
      have C := amL_cases (a := lo) (b := e0) (u := hi) (T := m - 1) F1.1 F1.2.1
      rw [gLf, gHf, gLh, rt] at x4
      have p : InP f s n c i (owC f s n fi true hi false m) (owI f s fi true hi false m) := ⟨x1, x2, x0, hang_tr IF.h x3⟩
      refine ⟨p, (RI p (by omega)).mpr ?_⟩
      rcases x4 with ⟨ev, eI, eC⟩ | ⟨ev, eI, eL, eH⟩
      · rw [eI]
        show Wh _ _ _ _ _ _ (owC f s n fi true hi false m) (owC f s n fi true hi false m) _ _ _
        rw [rf]
        exact WA _ _ _ _ _ (by omega) (by omega) (by omega) (by omega) (by omega)
      · rw [eI]
        show Wh _ _ _ _ _ _ (bnL f s (owC f s n fi true hi false m)) (bnH f s (owC f s n fi true hi false m)) _ _ _
        rw [rt]
        exact WA _ _ _ _ _ (by omega) (by omega) (by omega) (by omega) (by omega)
end Wm

/-! The middle faces, as a law asks of them. -/
namespace Wm
open PySem PySem.Spec PyProof.Rows L2
theorem leF_total {c d : Int} {i j : Bool} (h : leF c i d j = false) : leF d j c i = true := by
  have t : PySem.W.dataLe false (fun x : PyData => x) (fdD c i) (fdD d j) = true ∨ PySem.W.dataLe false (fun x : PyData => x) (fdD d j) (fdD c i) = true := (PySem.W.sortLe_total _ _ _).total _ _
  have t' : (leF c i d j || leF d j c i) = true := by
    rcases t with t | t
    · rw [show leF c i d j = true from t]; rfl
    · rw [show leF d j c i = true from t]; simp
  rw [h] at t'
  simpa using t'
section
variable {f s n c x B : Int} {i j : Bool}
/-- the ends of a piece are those of each of its faces -/
theorem en_eq (hf : 1 ≤ f) (hs : 0 ≤ s) (z : ¬ gNo f s n c i) (p : InP f s n c i x j) : enM f s n x j = enM f s n c i ∧ enS f s n x j = enS f s n c i ∧ enSi f s n x j = enSi f s n c i ∧ enE f s n x j = enE f s n c i ∧ enEi f s n x j = enEi f s n c i := by
  obtain ⟨e1, e2, e3, e4, _, _⟩ := p.eqs hf hs z
  have l : enLo f s n x j = enLo f s n c i := by unfold enLo; rw [e3, e2]
  have u : enUp f s n x j = enUp f s n c i := by unfold enUp; rw [e3, e4]
  unfold enM enS enSi enE enEi
  rw [if_neg z, if_neg p.z, if_neg z, if_neg p.z, if_neg z, if_neg p.z, if_neg z, if_neg p.z, if_neg z, if_neg p.z, l, u, e2, e3, e4]
  exact ⟨rfl, rfl, rfl, rfl, rfl⟩
theorem md_eq (hf : 1 ≤ f) (hs : 0 ≤ s) (z : ¬ gNo f s n c i) (p : InP f s n c i x j) (k : Int) : mdC f s n x j k = mdC f s n c i k ∧ mdI f s n x j k = mdI f s n c i k := by
  obtain ⟨_, a, b, d, e⟩ := en_eq hf hs z p
  unfold mdC mdI
  rw [a, b, d, e]
  exact ⟨rfl, rfl⟩
theorem MidR.of {H : Hp} {r : Addr} (hf : 1 ≤ f) (hs : 0 ≤ s) (z : ¬ gNo f s n c i) (p : InP f s n c i x j) (m : MidR H f s n x j r) : MidR H f s n c i r := by
  have M := (en_eq hf hs z p).1
  have L : mdLe f s n x j = mdLe f s n c i := by
    unfold mdLe
    rw [M, (md_eq hf hs z p _).1, (md_eq hf hs z p _).2, (md_eq hf hs z p _).1, (md_eq hf hs z p _).2]
  unfold MidR at *
  rw [M, L, (md_eq hf hs z p _).1, (md_eq hf hs z p _).2, (md_eq hf hs z p _).1, (md_eq hf hs z p _).2] at m
  exact m
/-- whose ink is on the whole piece behind half the beats: a middle one -/
theorem mid_only (hf : 1 ≤ f) (hs : 0 ≤ s) (c0 : 0 ≤ c) (c1 : c < n) (z : ¬ gNo f s n c i) {lo hi fi la : Int} (hlo : pLo f s (gL f s c i) = lo) (hhi : bnH f s (pLa f s n (gL f s c i)) = hi) (hfi : pFi f s (gL f s c i) = fi) (hla : pLa f s n (gL f s c i) = la)
    (p : InP f s n c i x j) (h : RW f s n lo hi fi la x j ((enM f s n c i + 1) / 2)) :
    (x = mdC f s n c i (enM f s n c i / 2) ∧ j = mdI f s n c i (enM f s n c i / 2)) ∨ (enM f s n c i % 2 = 1 ∧ x = mdC f s n c i (enM f s n c i / 2 + 1) ∧ j = mdI f s n c i (enM f s n c i / 2 + 1)) := by
  obtain ⟨m1, pS, pE, aM, _, _, far, mid⟩ := ctr hf hs c0 c1 z hlo hhi hfi hla
  obtain ⟨d1, d2⟩ := far x j _ p (by omega) h
  rw [ap_sym] at d1
  have hSE := hang_tr (hang_sym pS.h) pE.h
  have hSX := hang_tr (hang_sym pS.h) p.h
  have T := (ap_tri hf hs pS.x0 pS.x1 p.x0 p.x1 pE.x0 pE.x1 hSX hSE).1
  rw [aM] at T
  have key : ∀ m, 0 ≤ m → m ≤ enM f s n c i → apI f s (enS f s n c i) (enSi f s n c i) x j = m → apI f s x j (enE f s n c i) (enEi f s n c i) = enM f s n c i - m → x = mdC f s n c i m ∧ j = mdI f s n c i m := by
    intro m h0 h1 h2 h3
    obtain ⟨o0, o1, o2, o3, o4⟩ := ow_facts hf hs pS.x0 pS.x1 pE.x0 pE.x1 hSE h0 (by rw [aM]; exact h1)
    have o3' : apI f s (enS f s n c i) (enSi f s n c i) (mdC f s n c i m) (mdI f s n c i m) = m := o3
    have o4' : apI f s (mdC f s n c i m) (mdI f s n c i m) (enE f s n c i) (enEi f s n c i) = enM f s n c i - m := by rw [← aM]; exact o4
    exact uniq hf hs pS.x0 pS.x1 pE.x0 pE.x1 p.x0 p.x1 o0 o1 hSE hSX o2 (h2.trans o3'.symm) (h3.trans o4'.symm) (by omega)
  -- of one parity
  have par : (apI f s (enS f s n c i) (enSi f s n c i) x j + apI f s x j (enE f s n c i) (enEi f s n c i) - enM f s n c i) % 2 = 0 := by
    have r1 := rsI_nn (enSi f s n c i)
    have r2 := rsI_nn (enEi f s n c i)
    have r3 := rsI_nn j
    have ap2 : ∀ (a b : Int) (p q : Bool), (apI f s a p b q - rsI p - rsI q) % 2 = 0 ∨ (a = b ∧ p = q ∧ apI f s a p b q = 0) := by
      intro a b p q
      unfold apI
      by_cases h : a = b ∧ p = q
      · rw [if_pos h]; exact .inr ⟨h.1, h.2, rfl⟩
      · rw [if_neg h]; exact .inl (by omega)
    rw [← aM]
    rcases ap2 (enS f s n c i) x (enSi f s n c i) j with a | ⟨a, b, e⟩
    · rcases ap2 x (enE f s n c i) j (enEi f s n c i) with a' | ⟨a', b', e'⟩
      · rcases ap2 (enS f s n c i) (enE f s n c i) (enSi f s n c i) (enEi f s n c i) with a'' | ⟨_, b'', e''⟩
        · omega
        · rw [aM] at e''; omega
      · rw [e', ← a', ← b']; omega
    · rw [e, ← a, ← b]; omega
  by_cases o : enM f s n c i % 2 = 1
  · rcases (by omega : apI f s (enS f s n c i) (enSi f s n c i) x j = enM f s n c i / 2 ∨ apI f s (enS f s n c i) (enSi f s n c i) x j = enM f s n c i / 2 + 1) with e | e
    · exact .inl (key _ (by omega) (by omega) e (by omega))
    · exact .inr ⟨o, key _ (by omega) (by omega) e (by omega)⟩
  · exact .inl (key _ (by omega) (by omega) (by omega) (by omega))
/-- not behind a beat fewer -/
theorem not_sooner (hf : 1 ≤ f) (hs : 0 ≤ s) (c0 : 0 ≤ c) (c1 : c < n) (z : ¬ gNo f s n c i) {lo hi fi la : Int} (hlo : pLo f s (gL f s c i) = lo) (hhi : bnH f s (pLa f s n (gL f s c i)) = hi) (hfi : pFi f s (gL f s c i) = fi) (hla : pLa f s n (gL f s c i) = la)
    (p : InP f s n c i x j) (hB : 0 ≤ B) (h : RW f s n lo hi fi la x j B) : enM f s n c i ≤ 2 * B := by
  obtain ⟨m1, pS, pE, aM, _, _, far, mid⟩ := ctr hf hs c0 c1 z hlo hhi hfi hla
  obtain ⟨d1, d2⟩ := far x j _ p hB h
  rw [ap_sym] at d1
  have hSE := hang_tr (hang_sym pS.h) pE.h
  have hSX := hang_tr (hang_sym pS.h) p.h
  have T := (ap_tri hf hs pS.x0 pS.x1 p.x0 p.x1 pE.x0 pE.x1 hSX hSE).1
  rw [aM] at T
  omega
end
section
variable {X : Cx} {K : PySem.W.Frag}
/-- a thing in a tuple of data -/
def rInT (K : PySem.W.Frag) : R2 := fun x y H Q => ∃ e es, Dp K H x e ∧ Dp K H y (.tuple es) ∧ SeqAt.shaped e = true ∧ SeqAt.shaped (.tuple es) = true ∧ Q (.bl (es.any fun z => PyData.eqv z e)) H
theorem op_inT (room : X.A.units + 65 < cLine) : OpR X (compareOp .In) (rInT X.K) := by
  intro ps sh st H x y a b Q inv ra rb k
  obtain ⟨e, es, de, des, se, ses, q⟩ := k
  obtain ⟨_, r1⟩ := Dp.reads inv e x a de ra
  obtain ⟨_, r2⟩ := Dp.reads inv (.tuple es) y b des rb
  refine SeqAt.in_tuple_reads r2 r1 (SeqAt.canLay_of_shaped ses) (SeqAt.canLay_of_shaped se) (room_in_shaped se room) ?_
  exact ⟨.bl _, H, inv, rfl, q⟩
end
section
variable (K : PySem.W.Frag)
def sp__law_soonest : Sp := fun vs H Q _ => ∃ (p q W : Addr) (f s n lo hi fi la x B : Int) (j : Bool) (v w : V), vs = [.ref p, .int n, .ref q, .ref W, .int B] ∧ Drm K H p f s ∧ Fc H q x j ∧ 0 ≤ x ∧ x < n ∧ n < 2 ^ 600 ∧ 0 ≤ B ∧ H W = some (.tup [v, w]) ∧ PairV H v (some (lo, hi)) ∧ PairV H w (some (fi, la)) ∧
  RW f s n lo hi fi la x j B ∧ (1 ≤ B → ¬ RW f s n lo hi fi la x j (B - 1)) ∧ ∀ H', Same H H' → Q (.bl true) H'
end
section
variable {K : PySem.W.Frag} {H : Hp} {Q : VK} {E : XK} {p q r W S u : Addr} {f s n lo hi fi la x B c d : Int} {i j k : Bool} {v w : V} {o t : Option (Int × Int)} {xs : List V}
theorem y_soonest (D : Drm K H p f s) (e : Fc H q x j) (x0 : 0 ≤ x) (x1 : x < n) (n2 : n < 2 ^ 600) (b0 : 0 ≤ B) (eW : H W = some (.tup [v, w])) (pv : PairV H v (some (lo, hi))) (pw : PairV H w (some (fi, la))) (h1 : RW f s n lo hi fi la x j B) (h2 : 1 ≤ B → ¬ RW f s n lo hi fi la x j (B - 1)) (h : ∀ H', Same H H' → Q (.bl true) H') :
    sp__law_soonest K [.ref p, .int n, .ref q, .ref W, .int B] H Q E := ⟨p, q, W, f, s, n, lo, hi, fi, la, x, B, j, v, w, rfl, D, e, x0, x1, n2, b0, eW, pv, pw, h1, h2, h⟩
theorem x_noneIn (e : H r = some (.tup [v, w])) (pv : PairV H v o) (pw : PairV H w t) (h : Q (.bl (decide (o = none ∨ t = none))) H) : rInT K .non (.ref r) H Q :=
  ⟨_, _, .non, .tup (.inl (.inl e)) (.cons pv.dp (.cons pw.dp .nil)), by decide +kernel, shaped_pp o t, by
    have e2 : ([pdO o, pdO t].any fun z => PyData.eqv z .none) = decide (o = none ∨ t = none) := by
      cases o <;> cases t <;> simp [pdO, PyData.eqv]
    rw [e2]; exact h⟩
/-- unlike, where it is told that they are like -/
theorem x_neOf {x y : V} (e : ∀ R : VK, R (.bl true) H → rEqD K x y H R) (h : Q (.bl false) H) : rNeD K x y H Q := by
  obtain ⟨d, d', a, b, sa, sb, q⟩ := e (fun v _ => v = .bl true) rfl
  refine ⟨d, d', a, b, sa, sb, ?_⟩
  have q' : PyData.eqv d d' = true := by simpa using q
  rw [q']
  exact h
theorem x_inF1 (eS : H S = some (.lst [.ref u])) (a : Fc H u c i) (e : Fc H p x j) (h : Q (.bl (decide (c = x ∧ i = j))) H) : rInD K (.ref p) (.ref S) H Q :=
  ⟨_, _, e.dp, .lst (sql eS) (.cons a.dp .nil), shaped_fc _ _, fcs_shaped i [c], by
    have e2 : ([fdD c i].any fun z => PyData.eqv z (fdD x j)) = decide (c = x ∧ i = j) := by
      unfold fdD
      simp only [List.any_cons, List.any_nil, Bool.or_false, fc_eqv]
    rw [e2]; exact h⟩
theorem x_inF2 {u2 : Addr} (eS : H S = some (.lst [.ref u, .ref u2])) (a : Fc H u c i) (b : Fc H u2 d k) (e : Fc H p x j) (h : Q (.bl (decide ((c = x ∧ i = j) ∨ (d = x ∧ k = j)))) H) : rInD K (.ref p) (.ref S) H Q :=
  ⟨_, _, e.dp, .lst (sql eS) (.cons a.dp (.cons b.dp .nil)), shaped_fc _ _, (by
    unfold SeqAt.shaped
    have h1 : PyData.canLay0 (.list [fdD c i, fdD d k]) = true := by
      unfold PyData.canLay0
      simp [PyData.canLayAll0, lay_fd]
    have h2 : PyData.depth (.list [fdD c i, fdD d k]) = 2 := by
      unfold PyData.depth
      simp [PyData.depthAll, depth1_fd]
    rw [h1, h2]
    decide), by
    have e2 : ([fdD c i, fdD d k].any fun z => PyData.eqv z (fdD x j)) = decide ((c = x ∧ i = j) ∨ (d = x ∧ k = j)) := by
      unfold fdD
      simp only [List.any_cons, List.any_nil, Bool.or_false, fc_eqv]
      by_cases h1 : c = x ∧ i = j <;> by_cases h2 : d = x ∧ k = j <;> simp [h1, h2]
    rw [e2]; exact h⟩
theorem x_eqPP {v w v' w' : V} {o u o' u' : Option (Int × Int)} (hp : H p = some (.tup [v, w])) (hq : H q = some (.tup [v', w'])) (a : PairV H v o) (b : PairV H w u) (a' : PairV H v' o') (b' : PairV H w' u') (h : Q (.bl (decide (o = o' ∧ u = u'))) H) : rEqD K (.ref p) (.ref q) H Q :=
  ⟨_, _, .tup (.inl (.inl hp)) (.cons a.dp (.cons b.dp .nil)), .tup (.inl (.inl hq)) (.cons a'.dp (.cons b'.dp .nil)), shaped_pp o u, shaped_pp o' u', by
    have e : PyData.eqv (.tuple [pdO o, pdO u]) (.tuple [pdO o', pdO u']) = decide (o = o' ∧ u = u') := by
      rw [PyData.eqv]
      simp only [PyData.eqvAll, eqv_pd]
      by_cases c : o = o' <;> by_cases d : u = u' <;> simp [c, d]
    rw [e]; exact h⟩
theorem y_middleN (d : Drm K H p f s) (e : Fc H q c i) (h0 : 0 ≤ c) (h1 : c < n) (h2 : n < 2 ^ 600)
    (k : ∀ (r : Addr) (H' : Hp), Same H H' → H r = none → MidR H' f s n c i r → Q (.ref r) H') : sp_middle K [.ref p, .int n, .ref q] H Q E :=
  ⟨p, f, s, n, q, c, i, rfl, d, e, h0, h1, h2, fun o r u H' s nr a b => k r H' s nr (.inl ⟨u, a, b, o⟩), fun o r u v H' s nr a b c => k r H' s nr (.inr ⟨u, v, a, b, c, o⟩)⟩
end
/-- what stands in a list of middle faces -/
theorem MidR.list {H : Hp} {f s n c : Int} {i : Bool} {r : Addr} (m : MidR H f s n c i r) :
    (¬ enM f s n c i % 2 = 1 ∧ ∃ u, H r = some (.lst [.ref u]) ∧ Fc H u (mdC f s n c i (enM f s n c i / 2)) (mdI f s n c i (enM f s n c i / 2))) ∨
    (enM f s n c i % 2 = 1 ∧ ∃ u v C1 I1 C2 I2, H r = some (.lst [.ref u, .ref v]) ∧ Fc H u C1 I1 ∧ Fc H v C2 I2 ∧ leF C1 I1 C2 I2 = true ∧
      ((C1 = mdC f s n c i (enM f s n c i / 2) ∧ I1 = mdI f s n c i (enM f s n c i / 2) ∧ C2 = mdC f s n c i (enM f s n c i / 2 + 1) ∧ I2 = mdI f s n c i (enM f s n c i / 2 + 1)) ∨
       (C2 = mdC f s n c i (enM f s n c i / 2) ∧ I2 = mdI f s n c i (enM f s n c i / 2) ∧ C1 = mdC f s n c i (enM f s n c i / 2 + 1) ∧ I1 = mdI f s n c i (enM f s n c i / 2 + 1)))) := by
  rcases m with ⟨u, a, b, o⟩ | ⟨u, v, a, b, d, o⟩
  · exact .inl ⟨o, u, a, b⟩
  · refine .inr ⟨o, ?_⟩
    cases hl : mdLe f s n c i
    · rw [hl] at a
      have := leF_total hl
      exact ⟨v, u, _, _, _, _, a, d, b, this, .inr ⟨rfl, rfl, rfl, rfl⟩⟩
    · rw [hl] at a
      exact ⟨u, v, _, _, _, _, a, b, d, hl, .inl ⟨rfl, rfl, rfl, rfl⟩⟩
theorem mid_adj {f s n c : Int} {i : Bool} (hf : 1 ≤ f) (hs : 0 ≤ s) (c0 : 0 ≤ c) (c1 : c < n) (z : ¬ gNo f s n c i) {lo hi fi la : Int} (hlo : pLo f s (gL f s c i) = lo) (hhi : bnH f s (pLa f s n (gL f s c i)) = hi) (hfi : pFi f s (gL f s c i) = fi) (hla : pLa f s n (gL f s c i) = la)
    (o : enM f s n c i % 2 = 1) : apI f s (mdC f s n c i (enM f s n c i / 2)) (mdI f s n c i (enM f s n c i / 2)) (mdC f s n c i (enM f s n c i / 2 + 1)) (mdI f s n c i (enM f s n c i / 2 + 1)) = 1 := by
  obtain ⟨m1, pS, pE, aM, _, _, far, mid⟩ := ctr hf hs c0 c1 z hlo hhi hfi hla
  have hSE := hang_tr (hang_sym pS.h) pE.h
  obtain ⟨p0, _⟩ := mid (enM f s n c i / 2) (by omega) (by omega)
  obtain ⟨p1, _⟩ := mid (enM f s n c i / 2 + 1) (by omega) (by omega)
  obtain ⟨_, _, _, a3, a4⟩ := ow_facts (m := enM f s n c i / 2) hf hs pS.x0 pS.x1 pE.x0 pE.x1 hSE (by omega) (by omega)
  obtain ⟨_, _, _, b3, b4⟩ := ow_facts (m := enM f s n c i / 2 + 1) hf hs pS.x0 pS.x1 pE.x0 pE.x1 hSE (by omega) (by omega)
  have a3' : apI f s (enS f s n c i) (enSi f s n c i) (mdC f s n c i (enM f s n c i / 2)) (mdI f s n c i (enM f s n c i / 2)) = enM f s n c i / 2 := a3
  have a4' : apI f s (mdC f s n c i (enM f s n c i / 2)) (mdI f s n c i (enM f s n c i / 2)) (enE f s n c i) (enEi f s n c i) = enM f s n c i - enM f s n c i / 2 := by rw [← aM]; rw [aM]; exact a4.trans (by rw [aM])
  have b3' : apI f s (enS f s n c i) (enSi f s n c i) (mdC f s n c i (enM f s n c i / 2 + 1)) (mdI f s n c i (enM f s n c i / 2 + 1)) = enM f s n c i / 2 + 1 := b3
  have b4' : apI f s (mdC f s n c i (enM f s n c i / 2 + 1)) (mdI f s n c i (enM f s n c i / 2 + 1)) (enE f s n c i) (enEi f s n c i) = enM f s n c i - (enM f s n c i / 2 + 1) := b4.trans (by rw [aM])
  generalize mdC f s n c i (enM f s n c i / 2) = C0 at *
  generalize mdI f s n c i (enM f s n c i / 2) = I0 at *
  generalize mdC f s n c i (enM f s n c i / 2 + 1) = C1 at *
  generalize mdI f s n c i (enM f s n c i / 2 + 1) = I1 at *
  have h0E := hang_tr (hang_sym p0.h) pE.h
  have hS0 := hang_tr (hang_sym pS.h) p0.h
  have hS1 := hang_tr (hang_sym pS.h) p1.h
  obtain ⟨w0, w1, w2, w3, w4⟩ := ow_facts (m := 1) hf hs p0.x0 p0.x1 pE.x0 pE.x1 h0E (by decide) (by omega)
  have hSw := hang_tr hS0 w2
  have T1 := (ap_tri hf hs pS.x0 pS.x1 p0.x0 p0.x1 w0 w1 hS0 hSw).1
  have T2 := (ap_tri hf hs pS.x0 pS.x1 w0 w1 pE.x0 pE.x1 hSw hSE).1
  obtain ⟨u1, u2⟩ := uniq hf hs pS.x0 pS.x1 pE.x0 pE.x1 w0 w1 p1.x0 p1.x1 hSE hSw hS1 (by omega) (by omega) (by omega)
  rw [u1, u2] at w3
  exact w3
theorem MidR.lst {H : Hp} {f s n c : Int} {i : Bool} {r : Addr} (m : MidR H f s n c i r) : ∃ xs, H r = some (.lst xs) ∧ xs.length ≤ 1000 := by
  rcases m.list with ⟨_, u, a, _⟩ | ⟨_, u, v, _, _, _, _, a, _⟩
  · exact ⟨_, a, Nat.le_of_ble_eq_true rfl⟩
  · exact ⟨_, a, Nat.le_of_ble_eq_true rfl⟩
end Wm

/-! Longer rolls. -/
namespace Wm
/-- a pair, or none, within another one -/
def within : Option (Int × Int) → Option (Int × Int) → Prop
  | none, _ => True
  | some (a, b), some (c, d) => c ≤ a ∧ b ≤ d
  | some _, none => False
section
variable {f s n n' c d B : Int} {i j : Bool}
theorem no_longer (h : n ≤ n') (z : ¬ gNo f s n c i) : ¬ gNo f s n' c i := by
  unfold gNo at *
  cases i
  · simp at *; omega
  · exact z
theorem pLo_at (hf : 1 ≤ f) (hs : 0 ≤ s) {G : Int} (hG : 0 ≤ G) : tOf f s (pLo f s G) = tOf f s G ∧ secN f s (pLo f s G) = secN f s G := by
  have g1 := gcdI_pos (s := s) hf
  have t0 := tOf_nn hf hs hG
  have ts := mul_nn t0 hs
  obtain ⟨w1, w2⟩ := dvd_part g1 (show 1 ≤ f + tOf f s G * s by omega) (gcdI_dz f s (tOf f s G))
  have p0 := plc_nn hf hs hG
  have p1 := plc_lt hf hs hG
  have ew : siz f s G / gcdI f s = (f + tOf f s G * s) / gcdI f s := rfl
  have es : siz f s G = f + tOf f s G * s := rfl
  have eS : secN f s G = plc f s G / ((f + tOf f s G * s) / gcdI f s) := rfl
  obtain ⟨d1, d2⟩ := div_bd (plc f s G) ((f + tOf f s G * s) / gcdI f s) (by omega)
  have m0 : 0 ≤ secN f s G := by rw [eS]; exact Int.ediv_nonneg p0 (by omega)
  rw [← eS] at d1 d2
  have mw := mul_nn m0 (show 0 ≤ (f + tOf f s G * s) / gcdI f s by omega)
  have e : pLo f s G = Bg f s (tOf f s G) + secN f s G * ((f + tOf f s G * s) / gcdI f s) := rfl
  rw [e]
  exact ⟨(where_at hf hs t0 mw (by omega)).1, sec_at hf hs t0 mw (by omega) (Int.le_refl _) (by omega)⟩
theorem hang_at (hf : 1 ≤ f) (hs : 0 ≤ s) (c0 : 0 ≤ c) (c1 : c < n) (d0 : 0 ≤ d) (d1 : d < n) (z : ¬ gNo f s n c i) (z' : ¬ gNo f s n d j) (h : hang f s n c i d j) : tOf f s (gL f s c i) = tOf f s (gL f s d j) ∧ secN f s (gL f s c i) = secN f s (gL f s d j) := by
  have e := (hang_eq z z' h).1
  have a := pLo_at hf hs (gL_nn hf hs c0 c1 z).1
  have b := pLo_at hf hs (gL_nn hf hs d0 d1 z').1
  rw [e] at a
  exact ⟨a.1.symm.trans b.1, a.2.symm.trans b.2⟩
/-- what hangs together does in a longer roll -/
theorem hang_longer (hf : 1 ≤ f) (hs : 0 ≤ s) (c0 : 0 ≤ c) (c1 : c < n) (d0 : 0 ≤ d) (d1 : d < n) (hn : n ≤ n') (h : hang f s n c i d j) : hang f s n' c i d j := by
  by_cases ne : c = d ∧ i = j
  · obtain ⟨rfl, rfl⟩ := ne
    exact ⟨rfl, rfl⟩
  · obtain ⟨z, z'⟩ := hang_no h ne
    obtain ⟨e1, e2⟩ := hang_at hf hs c0 c1 d0 d1 z z' h
    exact hang_of (no_longer hn z) (no_longer hn z') e1 e2 (siz_of e1)
theorem la_longer (hn : n ≤ n') (G : Int) : pLa f s n G ≤ pLa f s n' G := by unfold pLa; omega
theorem hi_longer (hf : 1 ≤ f) (hs : 0 ≤ s) (c0 : 0 ≤ c) (c1 : c < n) (hn : n ≤ n') (z : ¬ gNo f s n c i) : bnH f s (pLa f s n (gL f s c i)) ≤ bnH f s (pLa f s n' (gL f s c i)) := by
  obtain ⟨g0, g1, g2⟩ := gL_nn hf hs c0 c1 z
  obtain ⟨_, _, _, _, b1, _, b3, b4, _⟩ := piece_facts hf hs g0 g2
  obtain ⟨_, _, _, _, d1, _, d3, d4, _⟩ := piece_facts (n := n') hf hs g0 (by omega)
  have t0 := tOf_nn hf hs g0
  exact bnH_mono hf hs (by omega) (by omega) (by omega) (by omega) (la_longer hn _)
/-- its piece lies in its piece there -/
theorem pc_longer (hf : 1 ≤ f) (hs : 0 ≤ s) (c0 : 0 ≤ c) (c1 : c < n) (hn : n ≤ n') : within (pcL f s n c i) (pcL f s n' c i) ∧ within (pcU f s n c i) (pcU f s n' c i) := by
  by_cases z : gNo f s n c i
  · unfold pcL pcU
    rw [if_pos z, if_pos z]
    by_cases z' : gNo f s n' c i
    · rw [if_pos z', if_pos z']
      cases i <;> simp [within]
    · rw [if_neg z', if_neg z']
      cases i
      · have P : pLo f s c ≤ c := (piece_ends hf hs c0 (show c < n' by omega) z').2.1
        have I : c ≤ bnH f s (pLa f s n' c) := (in_piece hf hs c0 (show c < n' by omega) z').1
        exact ⟨⟨P, I⟩, trivial⟩
      · exact absurd z z'
  · have z' := no_longer hn z
    unfold pcL pcU
    rw [if_neg z, if_neg z, if_neg z', if_neg z']
    exact ⟨⟨Int.le_refl _, hi_longer hf hs c0 c1 hn z⟩, Int.le_refl _, la_longer hn _⟩
/-- and is the same where the turn above its ground is no later than the last but one -/
theorem pc_stays (hf : 1 ≤ f) (hs : 0 ≤ s) (c0 : 0 ≤ c) (c1 : c < n) (hn : n ≤ n') {t : Int} (ht : Bg f s t < n) (h : tOf f s c + (if i = true then 0 else 1) < t) : pcL f s n' c i = pcL f s n c i ∧ pcU f s n' c i = pcU f s n c i := by
  have tc := tOf_nn hf hs c0
  by_cases z : gNo f s n c i
  · cases i
    · exfalso
      unfold gNo at z
      simp at z h
      obtain ⟨e1, e2⟩ := ab_turn hf hs c0 (Int.le_refl _) (ab_ord hf hs c0)
      have q1 := tOf_gt hf hs e2
      rw [e1] at q1
      rw [← bg_succ] at q1
      have q2 := bg_mono hf hs (show 0 ≤ tOf f s c + 1 + 1 by omega) (show tOf f s c + 1 + 1 ≤ t by omega)
      omega
    · have z' : gNo f s n' c true := z
      unfold pcL pcU
      rw [if_pos z, if_pos z, if_pos z', if_pos z']
      exact ⟨rfl, rfl⟩
  · have z' := no_longer hn z
    obtain ⟨g0, g1, g2⟩ := gL_nn hf hs c0 c1 z
    obtain ⟨m0, w1, w2, b0, b1, b2, b3, b4, b5, b6, b7, b8, b9⟩ := piece_facts hf hs g0 g2
    have tg : tOf f s (gL f s c i) + 1 < t := by
      cases i
      · simp at h
        exact h
      · simp at h
        unfold gNo at z
        simp at z
        have := (sec_touch (x := bnL f s c) hf hs c0 z (Int.le_refl _) (ab_bnH hf hs c0 z).1).2.1
        show tOf f s (bnL f s c) + 1 < t
        omega
    have top : pFi f s (gL f s c i) + prt f s (gL f s c i) ≤ Bg f s (tOf f s (gL f s c i) + 1 + 1) := by
      rw [bg_succ]
      have e : pFi f s (gL f s c i) = Bg f s (tOf f s (gL f s c i) + 1) + secN f s (gL f s c i) * prt f s (gL f s c i) := rfl
      have m := Int.mul_le_mul_of_nonneg_right b7 (show 0 ≤ prt f s (gL f s c i) by omega)
      have e2 : (secN f s (gL f s c i) + 1) * prt f s (gL f s c i) = secN f s (gL f s c i) * prt f s (gL f s c i) + prt f s (gL f s c i) := by grind
      omega
    have t0 := tOf_nn hf hs g0
    have q2 := bg_mono hf hs (show 0 ≤ tOf f s (gL f s c i) + 1 + 1 by omega) (show tOf f s (gL f s c i) + 1 + 1 ≤ t by omega)
    have e : pLa f s n' (gL f s c i) = pLa f s n (gL f s c i) := by unfold pLa; omega
    unfold pcL pcU
    rw [if_neg z, if_neg z, if_neg z', if_neg z', e]
    exact ⟨rfl, rfl⟩
theorem abH_next (hf : 1 ≤ f) (hs : 0 ≤ s) (c0 : 0 ≤ c) : abH f s c ≤ abH f s (c + 1) := by
  have a := ab_next hf hs c0
  have o := ab_ord hf hs (show 0 ≤ c + 1 by omega)
  obtain ⟨t, l, e, t0, l0, l1⟩ := cell_tl hf hs c0
  obtain ⟨aL, aH⟩ := ab_at hf hs t0 l0 l1
  have ts := mul_nn t0 hs
  by_cases h : l + 1 < f + t * s
  · have S := (ab_step hf hs t0 l0 h).1
    rw [← e] at S
    omega
  · obtain ⟨o0, o1, o2, _⟩ := over_facts l0 l1 (show f + t * s ≤ f + t * s + s by omega)
    have bs := bg_succ f s t
    have bs2 := bg_succ f s (t + 1)
    have bs3 := bg_succ f s (t + 1 + 1)
    have ez : f + (t + 1) * s = f + t * s + s := by grind
    have e2 : c + 1 = Bg f s (t + 1) + 0 := by omega
    obtain ⟨bL, bH⟩ := ab_at (t := t + 1) (l := 0) hf hs (by omega) (Int.le_refl 0) (by rw [ez]; omega)
    rw [← e2] at bL bH
    have zz : (0 : Int) * (f + (t + 1) * s + s) / (f + (t + 1) * s) = 0 := by simp
    rw [zz] at bL
    rw [← e] at aH
    omega
theorem abH_le (hf : 1 ≤ f) (hs : 0 ≤ s) (c0 : 0 ≤ c) (k : Nat) : abH f s c ≤ abH f s (c + k) := by
  induction k with
  | zero => simp
  | succ k ih =>
    have := abH_next hf hs (show 0 ≤ c + (k : Int) by omega)
    have e : c + ((k + 1 : Nat) : Int) = c + (k : Int) + 1 := by omega
    rw [e]
    omega
/-- what has ink has it in a longer roll -/
theorem re_longer (hf : 1 ≤ f) (hs : 0 ≤ s) (c0 : 0 ≤ c) (c1 : c < n) (hn : n ≤ n') (hB : 0 ≤ B) : within (reL f s n c i B) (reL f s n' c i B) ∧ within (reU f s n c i B) (reU f s n' c i B) := by
  by_cases z : gNo f s n c i
  · have hp := pc_longer (i := i) hf hs c0 c1 hn
    unfold reL reU
    rw [if_pos z, if_pos z]
    by_cases z' : gNo f s n' c i
    · rw [if_pos z', if_pos z']
      exact hp
    · rw [if_neg z', if_neg z']
      cases i
      · have P : pLo f s c ≤ c := (piece_ends hf hs c0 (show c < n' by omega) z').2.1
        have I : c ≤ bnH f s (pLa f s n' c) := (in_piece hf hs c0 (show c < n' by omega) z').1
        have eL : pcL f s n c false = some (c, c) := by unfold pcL; rw [if_pos z]; rfl
        have eU : pcU f s n c false = none := by unfold pcU; rw [if_pos z]; rfl
        rw [eL, eU]
        rw [if_neg (show ¬ B - rsI false < 0 by show ¬ B - 0 < 0; omega)]
        refine ⟨?_, trivial⟩
        show wdL (pLo f s c) c (B - 0) ≤ c ∧ c ≤ wdH (bnH f s (pLa f s n' c)) c (B - 0)
        unfold wdL wdH
        omega
      · exact absurd z z'
  · have z' := no_longer hn z
    have H := hi_longer hf hs c0 c1 hn z
    obtain ⟨P0, P1, P2, P3, P4, P5, P6, P7, P8⟩ := piece_ends hf hs c0 c1 z
    have I := (in_piece hf hs c0 c1 z).1
    unfold reL reU
    rw [if_neg z, if_neg z, if_neg z', if_neg z']
    generalize bnH f s (pLa f s n (gL f s c i)) = hi at *
    generalize bnH f s (pLa f s n' (gL f s c i)) = hi' at *
    constructor
    · by_cases t : B - rsI i < 0
      · rw [if_pos t]; trivial
      · rw [if_neg t, if_neg t]
        show wdL _ _ _ ≤ wdL _ _ _ ∧ wdH _ _ _ ≤ wdH _ _ _
        unfold wdL wdH
        omega
    · by_cases t : B - rsI i - 1 < 0
      · rw [if_pos t, if_pos t]
        cases i <;> simp [within]
      · rw [if_neg t, if_neg t]
        refine ⟨Int.le_refl _, ?_⟩
        have w0 : 0 ≤ wdH hi (gH f s c i) (B - rsI i - 1) := by unfold wdH; omega
        have w1 : wdH hi (gH f s c i) (B - rsI i - 1) ≤ wdH hi' (gH f s c i) (B - rsI i - 1) := by unfold wdH; omega
        have m := abH_le hf hs w0 (wdH hi' (gH f s c i) (B - rsI i - 1) - wdH hi (gH f s c i) (B - rsI i - 1)).toNat
        have e : wdH hi (gH f s c i) (B - rsI i - 1) + ((wdH hi' (gH f s c i) (B - rsI i - 1) - wdH hi (gH f s c i) (B - rsI i - 1)).toNat : Int) = wdH hi' (gH f s c i) (B - rsI i - 1) := by omega
        rw [e] at m
        show min _ _ ≤ min _ _
        omega
end
end Wm

/-! Promises of what the law of longer rolls asks itself. -/
namespace Wm
open PySem PySem.Spec PyProof.Rows L2
section
variable (K : PySem.W.Frag)
def sp__law_within : Sp := fun vs H Q _ => ∃ (v w : V) (o u : Option (Int × Int)), vs = [v, w] ∧ PairV H v o ∧ PairV H w u ∧ within o u ∧ Q (.bl true) H
def sp__law_all_within : Sp := fun vs H Q _ => ∃ (p q : Addr) (v w v' w' : V) (o u o' u' : Option (Int × Int)), vs = [.ref p, .ref q] ∧ H p = some (.tup [v, w]) ∧ H q = some (.tup [v', w']) ∧ PairV H v o ∧ PairV H w u ∧ PairV H v' o' ∧ PairV H w' u' ∧ within o o' ∧ within u u' ∧ Q (.bl true) H
def sp__law_beside : Sp := fun vs H Q _ => ∃ (a q : Addr) (n f s c : Int) (i : Bool), vs = [.ref a, .int f, .int s, .ref q] ∧ Src H a n ∧ n < 2 ^ 40 ∧ 1 ≤ f ∧ f ≤ 10 ^ 14 ∧ 0 ≤ s ∧ s ≤ 10 ^ 14 ∧ Fc H q c i ∧ 0 ≤ c ∧ c < 2 ^ 250 ∧
  ∀ (r : Addr) (H' : Hp) (d : Int) (j : Bool), 0 ≤ d → Src H' a (n + 20) → But a H H' → Fc H' r d j → Q (.ref r) H'
end
section
variable {K : PySem.W.Frag} {H : Hp} {Q : VK} {E : XK} {a p q : Addr} {v w v' w' : V} {o u o' u' : Option (Int × Int)} {n f s c : Int} {i : Bool}
theorem y_law_within (x : PairV H v o) (y : PairV H w u) (z : within o u) (h : Q (.bl true) H) : sp__law_within [v, w] H Q E := ⟨v, w, o, u, rfl, x, y, z, h⟩
theorem y_law_all_within (e : H p = some (.tup [v, w])) (e' : H q = some (.tup [v', w'])) (x : PairV H v o) (y : PairV H w u) (x' : PairV H v' o') (y' : PairV H w' u') (z : within o o') (z' : within u u') (h : Q (.bl true) H) : sp__law_all_within [.ref p, .ref q] H Q E :=
  ⟨p, q, v, w, v', w', o, u, o', u', rfl, e, e', x, y, x', y', z, z', h⟩
theorem y_law_beside (hs : Src H a n) (hn : n < 2 ^ 40) (f1 : 1 ≤ f) (f2 : f ≤ 10 ^ 14) (s1 : 0 ≤ s) (s2 : s ≤ 10 ^ 14) (e : Fc H q c i) (c0 : 0 ≤ c) (c1 : c < 2 ^ 250)
    (h : ∀ (r : Addr) (H' : Hp) (d : Int) (j : Bool), 0 ≤ d → Src H' a (n + 20) → But a H H' → Fc H' r d j → Q (.ref r) H') : sp__law_beside [.ref a, .int f, .int s, .ref q] H Q E := ⟨a, q, n, f, s, c, i, rfl, hs, hn, f1, f2, s1, s2, e, c0, c1, h⟩
end
/-! What a told list holds beside what was told ahead: nothing, numbers, faces. -/
inductive Flat (H : Hp) : List V → List PyData → Prop
  | nil : Flat H [] []
  | non {xs : List V} {ds : List PyData} : Flat H xs ds → Flat H (xs ++ [.non]) (ds ++ [.none])
  | int {xs : List V} {ds : List PyData} (m : Int) : Flat H xs ds → Flat H (xs ++ [.int m]) (ds ++ [.int m])
  | fc {xs : List V} {ds : List PyData} {r : Addr} {c : Int} {i : Bool} : Flat H xs ds → Fc H r c i → Flat H (xs ++ [.ref r]) (ds ++ [fdD c i])
theorem Flat.same {H H' : Hp} {xs : List V} {ds : List PyData} (s : Same H H') (x : Flat H xs ds) : Flat H' xs ds := by
  induction x with
  | nil => exact .nil
  | non _ h => exact .non h
  | int m _ h => exact .int m h
  | fc _ e h => exact .fc h (s _ _ e)
theorem Flat.set {H : Hp} {F : Addr} {ys zs : List V} {xs : List V} {ds : List PyData} (e : H F = some (.lst ys)) (x : Flat H xs ds) : Flat (upd H F (.lst zs)) xs ds := by
  induction x with
  | nil => exact .nil
  | non _ h => exact .non h
  | int m _ h => exact .int m h
  | @fc _ _ r c i _ e' h =>
    refine .fc h ?_
    have ne : r ≠ F := by
      rintro rfl
      unfold Fc at e'
      rw [e] at e'
      simp at e'
    unfold Fc at *
    rw [upd_ne ne]
    exact e'
theorem dpAll_app {K : PySem.W.Frag} {H : Hp} {xs ys : List V} {ds es : List PyData} (a : DpAll K H xs ds) (b : DpAll K H ys es) : DpAll K H (xs ++ ys) (ds ++ es) := by
  induction xs generalizing ds with
  | nil => cases a; exact b
  | cons x xs ih =>
    cases a with
    | cons p r => exact .cons p (ih r)
theorem Flat.dp {K : PySem.W.Frag} {H : Hp} {xs : List V} {ds : List PyData} (x : Flat H xs ds) : DpAll K H xs ds := by
  induction x with
  | nil => exact .nil
  | non _ h => exact dpAll_app h (.cons .non .nil)
  | int m _ h => exact dpAll_app h (.cons (.int m) .nil)
  | fc _ e h => exact dpAll_app h (.cons e.dp .nil)
end Wm

/-! What is told of three faces of a roll, as data. -/
namespace Wm
open PySem PySem.Spec PyProof.Rows L2
theorem depthAll_le {m : Nat} : ∀ {ds : List PyData}, (∀ d ∈ ds, d.depth ≤ m) → PyData.depthAll ds ≤ m
  | [], _ => by simp [PyData.depthAll]
  | d :: r, h => by
    have h1 := h d (by simp)
    have h2 := depthAll_le (ds := r) fun x hx => h x (by simp [hx])
    simp [PyData.depthAll]
    omega
theorem layAll {ds : List PyData} : (∀ d ∈ ds, PyData.canLay0 d = true) → PyData.canLayAll0 ds = true := by
  induction ds with
  | nil => intro _; simp [PyData.canLayAll0]
  | cons d r ih =>
    intro h
    simp [PyData.canLayAll0]
    exact ⟨h d (by simp), ih fun x hx => h x (by simp [hx])⟩
theorem eqvAll_self {ds : List PyData} : (∀ d ∈ ds, PyData.eqv d d = true) → PyData.eqvAll ds ds = true := by
  induction ds with
  | nil => intro _; simp [PyData.eqvAll]
  | cons d r ih =>
    intro h
    simp [PyData.eqvAll]
    exact ⟨h d (by simp), ih fun x hx => h x (by simp [hx])⟩
/-- fit to be compared with itself -/
def Fit (m : Nat) (d : PyData) : Prop := PyData.canLay0 d = true ∧ d.depth ≤ m ∧ PyData.eqv d d = true
theorem fit_list {m : Nat} {ds : List PyData} (h : ∀ d ∈ ds, Fit m d) : Fit (m + 1) (.list ds) := by
  refine ⟨?_, ?_, ?_⟩
  · unfold PyData.canLay0; exact layAll fun d hd => (h d hd).1
  · unfold PyData.depth; have := depthAll_le fun d hd => (h d hd).2.1; omega
  · rw [PyData.eqv]; exact eqvAll_self fun d hd => (h d hd).2.2
theorem fit_tup {m : Nat} {ds : List PyData} (h : ∀ d ∈ ds, Fit m d) : Fit (m + 1) (.tuple ds) := by
  refine ⟨?_, ?_, ?_⟩
  · unfold PyData.canLay0; exact layAll fun d hd => (h d hd).1
  · unfold PyData.depth; have := depthAll_le fun d hd => (h d hd).2.1; omega
  · rw [PyData.eqv]; exact eqvAll_self fun d hd => (h d hd).2.2
theorem Fit.mono {m m' : Nat} {d : PyData} (h : Fit m d) (l : m ≤ m') : Fit m' d := ⟨h.1, by have := h.2.1; omega, h.2.2⟩
theorem fit_int {m : Nat} (n : Int) : Fit m (.int n) := ⟨by simp [PyData.canLay0], by simp [PyData.depth], by simp [PyData.eqv]⟩
theorem fit_none {m : Nat} : Fit m .none := ⟨by simp [PyData.canLay0], by simp [PyData.depth], by simp [PyData.eqv]⟩
theorem fit_fd {c : Int} {i : Bool} : Fit 1 (fdD c i) := ⟨lay_fd, by rw [depth1_fd]; exact Nat.le_refl _, eqv_fd⟩
theorem fit_pd : ∀ o : Option (Int × Int), Fit 1 (pdO o)
  | none => fit_none
  | some (a, b) => fit_tup (m := 0) (ds := [a, b].map PyData.int) fun d hd => by
    simp at hd
    rcases hd with rfl | rfl <;> exact fit_int _
theorem fit_eq {K : PySem.W.Frag} {H : Hp} {Q : VK} {p q : Addr} {xs ys : List V} {ds : List PyData} (hp : H p = some (.lst xs)) (hq : H q = some (.lst ys)) (a : DpAll K H xs ds) (b : DpAll K H ys ds) (f : ∀ d ∈ ds, Fit 20 d) (h : Q (.bl true) H) : rEqD K (.ref p) (.ref q) H Q := by
  obtain ⟨h1, h2, h3⟩ := fit_list f
  refine x_eqSame (d := .list ds) (.lst (.inl (.inl hp)) a) (.lst (.inl (.inl hq)) b) ?_ h3 h
  unfold SeqAt.shaped
  rw [h1, decide_eq_true (show (PyData.list ds).depth ≤ 64 by omega)]
  rfl
section
variable {f s n c d g B : Int} {i j k : Bool}
/-- the middle faces -/
def midD (f s n c : Int) (i : Bool) : PyData :=
  if enM f s n c i % 2 = 1 then
    if mdLe f s n c i = true then .list [fdD (mdC f s n c i (enM f s n c i / 2)) (mdI f s n c i (enM f s n c i / 2)), fdD (mdC f s n c i (enM f s n c i / 2 + 1)) (mdI f s n c i (enM f s n c i / 2 + 1))]
    else .list [fdD (mdC f s n c i (enM f s n c i / 2 + 1)) (mdI f s n c i (enM f s n c i / 2 + 1)), fdD (mdC f s n c i (enM f s n c i / 2)) (mdI f s n c i (enM f s n c i / 2))]
  else .list [fdD (mdC f s n c i (enM f s n c i / 2)) (mdI f s n c i (enM f s n c i / 2))]
theorem fit_mid : Fit 2 (midD f s n c i) := by
  unfold midD
  split
  · split <;> exact fit_list (m := 1) fun d hd => by
      simp at hd
      rcases hd with rfl | rfl <;> exact fit_fd
  · exact fit_list (m := 1) fun d hd => by
      simp at hd
      subst hd
      exact fit_fd
theorem MidR.dp {K : PySem.W.Frag} {H : Hp} {r : Addr} (m : MidR H f s n c i r) : Dp K H (.ref r) (midD f s n c i) := by
  unfold midD
  rcases m with ⟨u, a, b, o⟩ | ⟨u, v, a, b, e, o⟩
  · rw [if_neg o]; exact .lst (.inl (.inl a)) (.cons b.dp .nil)
  · rw [if_pos o]
    by_cases h : mdLe f s n c i = true
    · rw [if_pos h] at a ⊢; exact .lst (.inl (.inl a)) (.cons b.dp (.cons e.dp .nil))
    · rw [if_neg h] at a ⊢; exact .lst (.inl (.inl a)) (.cons e.dp (.cons b.dp .nil))
open Classical in
/-- the face amid -/
noncomputable def amD (f s n c : Int) (i : Bool) (d : Int) (j : Bool) (g : Int) (k : Bool) : PyData :=
  if hang f s n c i d j ∧ hang f s n c i g k then fdD (owC f s n c i d j (adI f s c i d j g k)) (owI f s c i d j (adI f s c i d j g k)) else .none
open Classical in
/-- how far a face is, and the face half way -/
noncomputable def farD (f s n c : Int) (i : Bool) (d : Int) (j : Bool) : List PyData :=
  if hang f s n c i d j then [.int (apI f s c i d j), fdD (owC f s n c i d j (apI f s c i d j / 2)) (owI f s c i d j (apI f s c i d j / 2))] else [.none]
noncomputable def tldD (f s n c : Int) (i : Bool) (d : Int) (j : Bool) (g : Int) (k : Bool) (B : Int) : List PyData :=
  [.tuple [pdO (pcL f s n c i), pdO (pcU f s n c i)], .tuple [pdO (reL f s n c i B), pdO (reU f s n c i B)], .int (enM f s n c i), midD f s n c i, amD f s n c i d j g k] ++ (farD f s n c i d j ++ farD f s n c i g k)
theorem fit_far : ∀ x ∈ farD f s n c i d j, Fit 20 x := by
  intro x hx
  unfold farD at hx
  split at hx <;> simp at hx
  · rcases hx with rfl | rfl
    · exact fit_int _
    · exact fit_fd.mono (by decide)
  · subst hx; exact fit_none
theorem fit_am : Fit 1 (amD f s n c i d j g k) := by
  unfold amD
  split
  · exact fit_fd
  · exact fit_none
theorem fit_pp (o u : Option (Int × Int)) : Fit 2 (.tuple [pdO o, pdO u]) := fit_tup (m := 1) fun d hd => by
  simp at hd
  rcases hd with rfl | rfl <;> exact fit_pd _
theorem fit_tld : ∀ x ∈ tldD f s n c i d j g k B, Fit 20 x := by
  intro x hx
  unfold tldD at hx
  rcases List.mem_append.mp hx with hx | hx
  · simp at hx
    rcases hx with rfl | rfl | rfl | rfl | rfl
    · exact (fit_pp _ _).mono (by decide)
    · exact (fit_pp _ _).mono (by decide)
    · exact fit_int _
    · exact fit_mid.mono (by decide)
    · exact fit_am.mono (by decide)
  · rcases List.mem_append.mp hx with hx | hx
    · exact fit_far x hx
    · exact fit_far x hx
end
end Wm

/-! Data stays with what lies there; a walk over a tuple. -/
namespace Wm
open PySem PySem.Spec PyProof.Rows L2
section
variable {K : PySem.W.Frag} {H H' : Hp}
theorem rd_same {a : Addr} {o : HO} (s : Same H H') (h : Rd H a o) : Rd H' a o := by
  rcases h with h | ⟨o', h⟩
  · exact .inl (s _ _ h)
  · exact .inr ⟨o', s _ _ h⟩
theorem seqL_same {a : Addr} {xs : List V} (s : Same H H') (h : SqL K H a xs) : SqL K H' a xs := by
  rcases h with h | h
  · exact .inl (rd_same s h)
  · exact .inr h
theorem seqT_same {a : Addr} {xs : List V} (s : Same H H') (h : SqT K H a xs) : SqT K H' a xs := by
  rcases h with h | h
  · exact .inl (rd_same s h)
  · exact .inr h
mutual
theorem dp_same (s : Same H H') : ∀ {v : V} {d : PyData}, Dp K H v d → Dp K H' v d
  | _, _, .non => .non
  | _, _, .bl b => .bl b
  | _, _, .int i => .int i
  | _, _, .str x => .str x
  | _, _, .lst q r => .lst (seqL_same s q) (dpAll_same s r)
  | _, _, .tup q r => .tup (seqT_same s q) (dpAll_same s r)
theorem dpAll_same (s : Same H H') : ∀ {v : List V} {d : List PyData}, DpAll K H v d → DpAll K H' v d
  | _, _, .nil => .nil
  | _, _, .cons q r => .cons (dp_same s q) (dpAll_same s r)
end
end
/-- a for over a tuple -/
def forKT (K : PySem.W.Frag) (g : TG) (tb : TS) (D : Ends) (σ : L2.St) (x : V) (H : Hp) : Prop := ∃ a, x = .ref a ∧ (∃ xs, SqT K H a xs) ∧ ∃ W : Nat → Nat → L2.St → Hp → Prop, (∃ m, W 0 m σ H) ∧ ∀ i m σ H, W i m σ H →
      ((Itt K a).stop i H ∧ D.nx σ H) ∨ ((Itt K a).go i H ∧ ∃ N : L2.St → Hp → Prop, (∀ σ' H', N σ' H' → ∃ m', m' < m ∧ W (i + 1) m' σ' H') ∧ ∀ x H', (Itt K a).yld i H x H' → g x σ H' fun σ2 H2 => tb { D with nx := N, ct := N, bk := D.nx } σ2 H2)
section
variable {K : PySem.W.Frag} {σ : L2.St} {H : Hp} {D : Ends} {p : Addr} {xs : List V}
theorem x_forTup {tl : TE} {g : TG} {tb : TS} (h : tl σ H fun x H1 => forKT K g tb D σ x H1) : tFor (iTup K tl) g tb D σ H := h
theorem x_forT {g : TG} {tb : TS} (e : H p = some (.tup xs)) (I : Nat → L2.St → Hp → Prop) (h0 : I 0 σ H)
    (hs : ∀ i x σ H, xs[i]? = some x → I i σ H → H p = some (.tup xs) → g x σ H fun σ2 H2 => tb { D with nx := fun σ H => I (i + 1) σ H ∧ H p = some (.tup xs), ct := fun σ H => I (i + 1) σ H ∧ H p = some (.tup xs), bk := D.nx } σ2 H2)
    (hd : ∀ σ H, I xs.length σ H → D.nx σ H) : forKT K g tb D σ (.ref p) H :=
  ⟨p, rfl, ⟨_, .inl (.inl e)⟩, for_tup (K := K) (a := p) (xs := xs) (fun i σ H => I i σ H ∧ H p = some (.tup xs)) ⟨h0, e⟩ (fun _ _ _ _ q => .inl (.inl q.2)) (fun i x σ H hi q => hs i x σ H hi q.1 q.2) (fun σ H q => hd σ H q.1)⟩
end
/-- the other side, read from a dict -/
theorem x_swap {σ : L2.St} {H : Hp} {Q : VK} {m : Nat} {i : Bool} (e : σ[m]? = some (some (.str (sdS i)))) (h : ∀ H', Same H H' → Q (.str (sdS (!i))) H') :
    tDGet (tDisp [(tC (.str ("in" : Str)), tC (.str ("out" : Str))), (tC (.str ("out" : Str)), tC (.str ("in" : Str)))]) (tVar m) σ H Q := by
  intro p hp
  refine ⟨upd_same, [(.inr "in", .str "out"), (.inr "out", .str "in")], rfl, by decide, ?_⟩
  refine ⟨_, e, p, .str (sdS (!i)), rfl, ?_, ?_⟩
  · have g := DGet.k (H := upd (upd H p (.dK [])) p (.dK (mergeK [] [(.inr "in", .str "out"), (.inr "out", .str "in")]))) (a := p) (kvs := mergeK [] [(.inr "in", .str "out"), (.inr "out", .str "in")]) (k := .inr (sdS i)) upd_same
    have w : valV (mergeK [] [((.inr "in" : Key), V.str "out"), ((.inr "out" : Key), V.str "in")]) (.inr (sdS i)) = some (V.str (sdS (!i))) := by cases i <;> rfl
    rw [w] at g
    exact g
  · refine h _ fun b o eb => ?_
    have nb := ne_of_none eb hp
    rw [upd_ne nb, upd_ne nb]
    exact eb
theorem y_amidD {K : PySem.W.Frag} {H : Hp} {Q : VK} {E : XK} {p q r t : Addr} {f s n c d g : Int} {i j k : Bool} (D : Drm K H p f s) (e1 : Fc H q c i) (e2 : Fc H r d j) (e3 : Fc H t g k) (c0 : 0 ≤ c) (c1 : c < n) (d0 : 0 ≤ d) (d1 : d < n) (g0 : 0 ≤ g) (g1 : g < n) (n1 : n < 2 ^ 600)
    (h : ∀ (v : V) (H' : Hp), Same H H' → Dp K H' v (amD f s n c i d j g k) → Q v H') : sp_amid K [.ref p, .int n, .ref q, .ref r, .ref t] H Q E := by
  refine y_amid D e1 e2 e3 c0 c1 d0 d1 g0 g1 n1 (fun z H' s' => h _ _ s' ?_) (fun z1 z2 u H' s' eu => h _ _ s' ?_)
  · unfold amD; rw [if_neg z]; exact .non
  · unfold amD; rw [if_pos ⟨z1, z2⟩]; exact eu.dp
theorem But.same {F : Addr} {H H' : Hp} (b : But F H H') (e : H F = none) : Same H H' := fun a o ea => b a o (ne_of_none ea e) ea
/-- what the loop has told -/
noncomputable def flD (f s n c : Int) (i : Bool) (d : Int) (j : Bool) (g : Int) (k : Bool) : Nat → List PyData
  | 0 => []
  | 1 => farD f s n c i d j
  | _ => farD f s n c i d j ++ farD f s n c i g k
section
variable {X : Cx} {K : PySem.W.Frag} {H H' : Hp} {Q : VK} {r a : Addr} {m : Int} {v w : V} {o t : Option (Int × Int)}
/-- a thing not in a tuple of data -/
def rNInT (K : PySem.W.Frag) : R2 := fun x y H Q => ∃ e es, Dp K H x e ∧ Dp K H y (.tuple es) ∧ SeqAt.shaped e = true ∧ SeqAt.shaped (.tuple es) = true ∧ Q (.bl (!es.any fun z => PyData.eqv z e)) H
theorem op_notInT (room : X.A.units + 65 < cLine) : OpR X (compareOp .NotIn) (rNInT X.K) := by
  intro ps sh st H x y a b Q inv ra rb k
  obtain ⟨e, es, de, des, se, ses, q⟩ := k
  obtain ⟨_, r1⟩ := Dp.reads inv e x a de ra
  obtain ⟨_, r2⟩ := Dp.reads inv (.tuple es) y b des rb
  refine SeqAt.notIn_tuple_reads r2 r1 (SeqAt.canLay_of_shaped ses) (SeqAt.canLay_of_shaped se) (room_in_shaped se room) ?_
  exact ⟨.bl _, H, inv, rfl, q⟩
theorem x_noneNot (e : H r = some (.tup [v, w])) (pv : PairV H v o) (pw : PairV H w t) (h : Q (.bl (!decide (o = none ∨ t = none))) H) : rNInT K .non (.ref r) H Q := by
  obtain ⟨e1, es, a, b, c, d, q⟩ := x_noneIn (K := K) (Q := fun v _ => v = .bl (decide (o = none ∨ t = none))) e pv pw rfl
  refine ⟨e1, es, a, b, c, d, ?_⟩
  have q' : (es.any fun z => PyData.eqv z e1) = decide (o = none ∨ t = none) := by simpa using q
  rw [q']
  exact h
theorem PairV.but (b : But a H H') (hs : Src H a m) : ∀ {v : V} {o : Option (Int × Int)}, PairV H v o → PairV H' v o
  | _, none, h => h
  | _, some (_, _), ⟨r, e, h⟩ => ⟨r, e, tup_but b hs h⟩
end
/-- the promise of what is told of three faces -/
def sp__law_told (K : PySem.W.Frag) : Sp := fun vs H Q _ => ∃ (p L q r t : Addr) (f s n c d g B : Int) (i j k : Bool), vs = [.ref p, .int n, .ref L, .int B] ∧ Drm K H p f s ∧ n < 2 ^ 600 ∧ H L = some (.tup [.ref q, .ref r, .ref t]) ∧ Fc H q c i ∧ Fc H r d j ∧ Fc H t g k ∧ 0 ≤ c ∧ c < n ∧ 0 ≤ d ∧ d < n ∧ 0 ≤ g ∧ g < n ∧ 0 ≤ B ∧
  ∀ (F : Addr) (H' : Hp) (xs : List V), Same H H' → H' F = some (.lst xs) → DpAll K H' xs (tldD f s n c i d j g k B) → Q (.ref F) H'
theorem y_law_told {K : PySem.W.Frag} {H : Hp} {Q : VK} {E : XK} {p L q r t : Addr} {f s n c d g B : Int} {i j k : Bool} (D : Drm K H p f s) (n2 : n < 2 ^ 600) (eL : H L = some (.tup [.ref q, .ref r, .ref t])) (e1 : Fc H q c i) (e2 : Fc H r d j) (e3 : Fc H t g k)
    (c0 : 0 ≤ c) (c1 : c < n) (d0 : 0 ≤ d) (d1 : d < n) (g0 : 0 ≤ g) (g1 : g < n) (b0 : 0 ≤ B) (h : ∀ (F : Addr) (H' : Hp) (xs : List V), Same H H' → H' F = some (.lst xs) → DpAll K H' xs (tldD f s n c i d j g k B) → Q (.ref F) H') :
    sp__law_told K [.ref p, .int n, .ref L, .int B] H Q E := ⟨p, L, q, r, t, f, s, n, c, d, g, B, i, j, k, rfl, D, n2, eL, e1, e2, e3, c0, c1, d0, d1, g0, g1, b0, h⟩
/-- two told lists of the same are alike -/
theorem x_neTold {K : PySem.W.Frag} {H : Hp} {Q : VK} {p q : Addr} {xs ys : List V} {f s n c d g B : Int} {i j k : Bool} (hp : H p = some (.lst xs)) (hq : H q = some (.lst ys)) (a : DpAll K H xs (tldD f s n c i d j g k B)) (b : DpAll K H ys (tldD f s n c i d j g k B)) (h : Q (.bl false) H) : rNeD K (.ref p) (.ref q) H Q :=
  x_neOf (fun _ h => fit_eq hp hq a b fit_tld h) h
end Wm

namespace Wm
open PySem PySem.Spec PyProof.Rows L2

local macro_rules | `(tactic| walk_at "bd") => `(tactic| (repeat (first
  | with_reducible assumption
  | exact Drm.bf (by assumption)
  | exact Drm.bs (by assumption)
  | exact Bd.lit8 (by decide)
  | exact Bd.lit (by decide)
  | with_reducible apply Bd.add
  | with_reducible apply Bd.sub
  | with_reducible apply Bd.mul
  | with_reducible apply Bd.div
  | decide)))
local macro_rules | `(tactic| walk_at "bdm") => `(tactic| (first | with_reducible assumption | (apply Bd.mono; (walk_at "bd"))))
local macro_rules | `(tactic| walk_at "cm") => `(tactic| (apply cm; (walk_at "bd")))
local macro_rules | `(tactic| walk_at "cd") => `(tactic| (apply cd; (first | omega | exact (Drm.f1 (by assumption)) | skip); (walk_at "bd")))
local macro_rules | `(tactic| walk_at "drm") => `(tactic| (repeat (first
  | with_reducible assumption
  | ((with_reducible apply Drm.same); (with_reducible assumption))
  | ((with_reducible apply Drm.upd); (with_reducible assumption))
  | ((with_reducible apply Drm.but); (with_reducible assumption); (case' hs => walk_at "src")))))
local macro_rules | `(tactic| walk_at "src") => `(tactic| (repeat (first
  | with_reducible assumption
  | ((with_reducible apply Src.same); (with_reducible assumption))
  | ((with_reducible apply Src.upd); (with_reducible assumption)))))
local macro_rules | `(tactic| walk_at "at") => `(tactic| (repeat (first
  | with_reducible assumption
  | exact upd_same
  | ((with_reducible apply at_same); (with_reducible assumption))
  | ((with_reducible apply at_upd); (with_reducible assumption))
  | ((with_reducible apply tup_but); (with_reducible assumption); (case' hs => walk_at "src"))
  | ((with_reducible apply at_but); (with_reducible assumption); (with_reducible assumption)))))
local macro_rules | `(tactic| walk_at "rd1") => `(tactic| (first
  | with_reducible refine x_seq ?_
  | with_reducible refine x_asg ?_
  | ((with_reducible refine' x_set ?e0 ?_); (case e0 => (dsimp only [List.set])))
  | ((with_reducible refine' x_var ?e0 ?_); (case e0 => exact rfl))
  | with_reducible refine x_c ?_
  | with_reducible refine x_op ?_
  | with_reducible refine x_un ?_
  | with_reducible refine x_rI0 ?_
  | with_reducible refine x_rEqI ?_
  | with_reducible refine x_rNeI ?_
  | with_reducible refine x_rU ?_
  | with_reducible refine x_drop ?_
  | with_reducible refine x_ret ?_
  | with_reducible refine x_retN ?_
  | with_reducible refine x_next ?_
  | with_reducible refine x_ifS ?_
  | with_reducible refine x_test ?_
  | with_reducible refine x_B ?_
  | with_reducible refine x_asB ?_
  | with_reducible refine x_not ?_
  | with_reducible refine x_and ?_
  | with_reducible refine x_or ?_
  | with_reducible refine x_andV ?_
  | with_reducible refine x_orV ?_
  | with_reducible refine x_notV ?_
  | with_reducible refine x_tIf ?_
  | with_reducible refine x_chain ?_
  | with_reducible refine x_chK ?_
  | with_reducible refine x_nil ?_
  | with_reducible refine x_cons ?_
  | with_reducible refine x_cb ?_
  | with_reducible refine x_call ?_
  | with_reducible refine x_meth ?_
  | with_reducible refine x_fld ?_
  | with_reducible refine x_make ?_
  | with_reducible refine x_tup ?_
  | with_reducible refine x_lst ?_
  | with_reducible refine x_gSub ?_
  | (with_reducible refine x_gNil ?_)
  | (with_reducible refine x_gCons ?_)
  | ((with_reducible refine' x_gTup ?e0 ?e1 ?_); (case e0 => (walk_at "at")); (case e1 => rfl))
  | ((with_reducible refine' x_fst ?c0 ?c1 ?e0 ?_); (case c0 => exact Txt.cl_Drum (by assumption)); (case c1 => exact Txt.n_first (by assumption)); (case e0 => (walk_at "drm")))
  | ((with_reducible refine' x_stp ?c0 ?c1 ?e0 ?_); (case c0 => exact Txt.cl_Drum (by assumption)); (case c1 => exact Txt.n_step (by assumption)); (case e0 => (walk_at "drm")))
  | ((with_reducible refine' x_methD ?e0 ?e1 ?_); (case e0 => (walk_at "drm")); (case e1 => first | exact nm_where | exact nm_size | exact nm_begins | exact nm_turn_of | exact nm_first | exact nm_step | exact nm_cell_at | exact nm_filled))
  | ((with_reducible refine' x_size ?e0 ?_); (case e0 => exact Nat.le_of_ble_eq_true rfl))
  | ((with_reducible refine' x_rI (C := CMulW) ?e0 ?_); (case e0 => walk_at "cm"))
  | ((with_reducible refine' x_rI (C := CDivW) ?e0 ?_); (case e0 => walk_at "cd"))
  | ((with_reducible refine' x_rI (C := CPow) ?e0 ?_); (case e0 => exact ⟨by decide, by decide, by decide⟩))
  | ((with_reducible refine' x_rI (C := fun _ j => j ≠ 0) ?e0 ?_); (case e0 => (show (_ : Int) ≠ 0); omega))
  | ((with_reducible refine' x_ixL ?e0 ?e1 ?_); (case e0 => exact sql (by walk_at "at")); (case e1 => rfl))
  | ((with_reducible refine' x_ixT ?e0 ?e1 ?_); (case e0 => (walk_at "at")); (case e1 => rfl))
  | ((with_reducible refine' x_lenL ?e0 ?_); (case e0 => first | assumption | exact sql (by walk_at "at")))
  | ((with_reducible refine' x_lenT ?e0 ?_); (case e0 => (walk_at "at")))
  | with_reducible refine x_max ?_
  | with_reducible refine x_min ?_
  | with_reducible refine x_intB ?_
  | with_reducible refine x_parK ?_
  | with_reducible refine x_parK3 ?_
  | ((with_reducible refine' x_par3 ?e0 ?_); (case e0 => (dsimp only [List.set])))
  | ((with_reducible refine' x_par2 ?e0 ?_); (case e0 => (dsimp only [List.set])))
  | with_reducible refine x_methN ?_
  | ((with_reducible refine' x_methND ?e0 ?e1 ?_); (case e0 => (walk_at "drm")); (case e1 => first | exact nm_where | exact nm_size | exact nm_begins | exact nm_turn_of | exact nm_first | exact nm_step | exact nm_cell_at | exact nm_filled))
  | ((with_reducible refine' x_len1 ?e0 ?_); (case e0 => rfl); dsimp only [List.cons_append, List.nil_append])
  | ((with_reducible refine' y_law_begins ?e0 ?e1 ?e2 ?_); (case e0 => walk_at "bdm"); (case e1 => walk_at "bdm"); (case e2 => walk_at "bdm"))
  | with_reducible refine x_for1 ?_
  | with_reducible refine x_forW ?_
  | with_reducible refine x_asRW ?_
  | ((with_reducible refine' x_asR1 ?e0 ?e1 ?_); (case e0 => omega); (case e1 => omega))
  | with_reducible refine x_bm ?_
  | ((with_reducible refine' x_bmL ?e0 ?_); (case e0 => first | assumption | exact sql (by walk_at "at")))
  | ((with_reducible refine' x_cat ?e0 ?e1 ?e2 ?_); (case e0 => walk_at "at"); (case e1 => walk_at "at"); (case e2 => exact Nat.le_trans (Nat.le_of_ble_eq_true (m := 1000) rfl) (by decide)))
  | ((with_reducible refine' x_cut2 ?e0 ?_); (case e0 => walk_at "at"))
  | ((with_reducible refine' x_neT3 ?e0 ?e1 ?_); (case e0 => walk_at "at"); (case e1 => walk_at "at"))
  | ((with_reducible refine' x_neT2 ?e0 ?e1 ?_); (case e0 => walk_at "at"); (case e1 => walk_at "at"))
  | ((with_reducible refine' x_eqT3 ?e0 ?e1 ?_); (case e0 => walk_at "at"); (case e1 => walk_at "at"))
  | ((with_reducible refine' x_eqT2 ?e0 ?e1 ?_); (case e0 => walk_at "at"); (case e1 => walk_at "at"))
  | with_reducible refine x_isN0 ?_
  | with_reducible refine x_isN1 ?_
  | with_reducible refine x_isN2 ?_
  | with_reducible refine x_notN0 ?_
  | with_reducible refine x_notN1 ?_
  | with_reducible refine x_notN2 ?_
  | with_reducible refine x_sl ?_
  | with_reducible refine x_noPart ?_
  | with_reducible refine x_part ?_
  | with_reducible refine x_asI ?_
  | with_reducible refine x_for ?_
  | with_reducible refine y_whole ?_
  | with_reducible refine y_from ?_
  | ((with_reducible refine' y_below ?e0 ?_); (case e0 => omega))
  | ((with_reducible refine' y_cturn ?e0 ?_); (case e0 => omega))
  | ((with_reducible refine' y_ccell ?e0 ?_); (case e0 => omega))
  | ((with_reducible refine' y_clen ?e0 ?_); (case e0 => omega))
  | ((with_reducible refine' y_cbelow ?e0 ?e1 ?_); (case e0 => omega); (case e1 => omega))
  | ((with_reducible refine' y_cbeats ?e0 ?_); (case e0 => omega))
  | ((with_reducible refine' y_cplace ?e0 ?e1 ?_); (case e0 => omega); (case e1 => omega))
  | ((with_reducible refine' y_first ?e0 ?_); (case e0 => walk_at "drm"))
  | ((with_reducible refine' y_step ?e0 ?_); (case e0 => walk_at "drm"))
  | ((with_reducible refine' y_size ?e0 ?e1 ?e2 ?_); (case e0 => (walk_at "drm")); (case e1 => omega); (case e2 => omega))
  | ((with_reducible refine' y_begins ?e0 ?e1 ?e2 ?_); (case e0 => (walk_at "drm")); (case e1 => omega); (case e2 => omega))
  | ((with_reducible refine' y_turn_of ?e0 ?e1 ?e2 ?_); (case e0 => (walk_at "drm")); (case e1 => omega); (case e2 => omega))
  | with_reducible refine x_t ?_
  | with_reducible refine x_f ?_
  | with_reducible refine x_nt ?_
  | with_reducible refine x_nf ?_
  | ((with_reducible refine' x_iteT ?e0 ?_); (case e0 => omega))
  | ((with_reducible refine' x_iteF ?e0 ?_); (case e0 => omega))
  | ((with_reducible refine' x_iteNF ?e0 ?_); (case e0 => omega))
  | ((with_reducible refine' x_iteNT ?e0 ?_); (case e0 => omega))))
local macro_rules | `(tactic| walk_at "len") => `(tactic| exact Nat.le_of_ble_eq_true rfl)
local macro_rules | `(tactic| walk_at "mem") => `(tactic| (simp only [List.mem_cons, List.not_mem_nil, or_false] at *))
local macro_rules | `(tactic| walk_at "rd") => `(tactic| (repeat (walk_at "rd1")))

local macro_rules | `(tactic| walk_at "rd1") => `(tactic| (first
  | with_reducible refine x_lc ?_
  | with_reducible refine x_lcW ?_
  | with_reducible refine x_lc1 ?_
  | with_reducible refine x_yes ?_
  | with_reducible refine x_chain3 ?_
  | with_reducible refine x_chJ ?_
  | ((with_reducible refine' x_wp ?e0 ?_); (case e0 => rfl))))
theorem sc__law_cell_at : FnScope ["_law_script", "_law_k"] ["_law_script", "_law_k"] (defScope s__law_cell_at) := ⟨rfl, rfl, rfl, by decide +kernel, rfl, by decide +kernel, by decide +kernel⟩
theorem ok__law_cell_at {P : Program} {w : World} {K : PySem.W.Frag} {mg : Str → Option Value} {base : Heap} (T : Txt K mg) : ∃ fd, FnOk P w K mg base CX0 1 (He.ga K "_law_cell_at") fd ["_law_script", "_law_k"] (sp__law_cell_at K) ∧ Binds K fd ["_law_script", "_law_k"] [] ∧ FunD K d__law_cell_at.name d__law_cell_at.qual d__law_cell_at.params d__law_cell_at.body d__law_cell_at.scope (d__law_cell_at.dvs K) (d__law_cell_at.kws K) (He.fAd K d__law_cell_at.at_) fd := by
  obtain ⟨fd, F⟩ := T.f__law_cell_at
  refine ⟨fd, ?_, F.bindsN fun _ _ _ _ _ _ us hl => match us, hl with | [_, _], _ => rfl, F⟩
  refine F.ok (k := 0) sc__law_cell_at (fun vs H Q E h => ?_) (fun cdv A outer s H vs Q E hr h => ?_)
  · obtain ⟨a, ns, c, rfl, _⟩ := h
    rfl
  · obtain ⟨a, ns, c, rfl, hs, hl, c0, k⟩ := h
    refine ⟨_, PSs.nox (pss_cons (ps_if (pt_cmpR op_lt (pv 1) (pe_callB cl_len (by rfl) T.z_len (by decide +kernel) (pa_cons (pv 0) pa_nil)) (nomark _)) (pss_one (ps_ret (pe_ix ix_list (pv 0) (pv 1) (fun _ _ => rfl)))) pss_nil)
      (pss_one (ps_ret pe_int))), ?_⟩
    show (_ : TS) _ [some (.ref a), some (.int c)] _
    try dsimp only [nk]
    walk_at "rd"
    refine x_ite (fun g => ?_) (fun g => ?_)
    · walk_at "rd"
      obtain ⟨v, hv, ev⟩ := atI_in c0 g
      obtain ⟨z, _, rfl⟩ := List.mem_map.mp hv
      refine x_ixL hs ev ?_
      exact k z
    · walk_at "rd"
      exact k 0
theorem sc__law_next : FnScope ["_law_source", "_law_many", "_law_found", "_law_prime", "_law_figure"] ["_law_source", "_law_many"] (defScope s__law_next) := ⟨rfl, rfl, rfl, by decide +kernel, rfl, by decide +kernel, by decide +kernel⟩
theorem ok__law_next {P : Program} {w : World} {K : PySem.W.Frag} {mg : Str → Option Value} {base : Heap} (T : Txt K mg) : ∃ fd, FnOk P w K mg base CX0 1 (He.ga K "_law_next") fd ["_law_source", "_law_many"] sp__law_next ∧ Binds K fd ["_law_source", "_law_many"] [] ∧ FunD K d__law_next.name d__law_next.qual d__law_next.params d__law_next.body d__law_next.scope (d__law_next.dvs K) (d__law_next.kws K) (He.fAd K d__law_next.at_) fd := by
  obtain ⟨fd, F⟩ := T.f__law_next
  refine ⟨fd, ?_, F.bindsN fun _ _ _ _ _ _ us hl => match us, hl with | [_, _], _ => rfl, F⟩
  refine F.ok (k := 0) sc__law_next (fun vs H Q E h => ?_) (fun cdv A outer s H vs Q E hr h => ?_)
  · obtain ⟨a, n, m, rfl, _⟩ := h
    rfl
  · obtain ⟨a, n, m, rfl, ⟨s0, s1, s2, e, h1, h2, h3, h4⟩, hn, m0, m1, k⟩ := h
    refine ⟨_, PSs.nox (pss_cons (ps_if (pt_cmpR op_gt (pe_ix ix_list (pv 0) pe_int (fun _ _ => rfl)) pe_int (nomark _)) (pss_cons (ps_set (i := 2) sc__law_next.nd rfl (Or.inl rfl) (pe_op op_modN (pe_ix ix_list (pv 0) pe_int (fun _ _ => rfl)) (pv 1)))
      (pss_cons (ps_asg (pe_op op_fdivW (pe_ix ix_list (pv 0) pe_int (fun _ _ => rfl)) (pv 1)) (pg_sub (pv 0) pe_int set_list))
      (pss_one (ps_ret (pv 2))))) pss_nil)
      (pss_cons (ps_asg (pe_op op_add (pe_ix ix_list (pv 0) pe_int (fun _ _ => rfl)) pe_int) (pg_sub (pv 0) pe_int set_list))
      (pss_cons (ps_set (i := 3) sc__law_next.nd rfl (Or.inl rfl) (pe_ix ix_list (pe_lst (pa_cons pe_int (pa_cons pe_int (pa_cons pe_int (pa_cons pe_int (pa_cons pe_int (pa_cons pe_int (pa_cons pe_int pa_nil)))))))) (pe_op op_modN (pe_ix ix_list (pv 0) pe_int (fun _ _ => rfl)) pe_int) (fun _ _ => rfl)))
      (pss_cons (ps_set (i := 4) sc__law_next.nd rfl (Or.inl rfl) (pe_op op_modN (pe_op op_pow (pe_op op_add (pe_op op_add (pe_ix ix_list (pv 0) pe_int (fun _ _ => rfl)) (pe_op op_mulW pe_int (pe_ix ix_list (pv 0) pe_int (fun _ _ => rfl)))) pe_int) pe_int) (pv 3)))
      (pss_cons (ps_set (i := 4) sc__law_next.nd rfl (Or.inl rfl) (pe_op op_modN (pe_op op_mulW (pe_op op_add (pv 4) (pe_ix ix_list (pv 0) pe_int (fun _ _ => rfl))) (pe_op op_add (pe_op op_fdivW (pv 4) pe_int) pe_int)) (pv 3)))
      (pss_one (ps_ret (pe_op op_modN (pe_op op_fdivW (pv 4) pe_int) (pv 1))))))))), ?_⟩
    show (_ : TS) _ [some (.ref a), some (.int m), none, none, none] _
    try dsimp only [nk]
    have bm : Bd 4000 m := Bd.of (by omega) m1
    walk_at "rd"
    refine x_ite (p := 0 < s0) (fun c => ?_) (fun c => ?_)
    · walk_at "rd"
      refine x_setL e (show ixN 3 0 = some 0 from rfl) ?_
      walk_at "rd"
      exact k _ _ (Int.fmod_nonneg_of_pos _ m0) (Int.fmod_lt_of_pos _ m0) ⟨_, _, _, upd_same, h1, h2, h3, by omega⟩ but_set
    · walk_at "rd"
      refine x_setL e (show ixN 3 2 = some 2 from rfl) ?_
      have e1 : ((upd H a (.lst ([V.int s0, V.int s1, V.int s2].set 2 (V.int (s2 + 1)))) : Hp) a) = some (.lst [V.int s0, V.int s1, V.int (s2 + 1)]) := upd_same
      have b1 : But a H (upd H a (.lst ([V.int s0, V.int s1, V.int s2].set 2 (V.int (s2 + 1))))) := but_set
      generalize upd H a (.lst ([V.int s0, V.int s1, V.int s2].set 2 (V.int (s2 + 1)))) = H1 at *
      have h3' : 0 ≤ s2 + 1 := by omega
      have h4' : s2 + 1 < 2 ^ 51 := by omega
      have h5' : s2 + 1 ≤ n + 1 := by omega
      generalize s2 + 1 = z2 at *
      have bz : Bd 51 z2 := Bd.of h3' h4'
      walk_at "rd"
      intro p hp
      walk_at "rd"
      have g0 : 0 ≤ z2.fmod 7 := Int.fmod_nonneg_of_pos _ (by decide)
      have g1 : z2.fmod 7 < 7 := Int.fmod_lt_of_pos _ (by decide)
      obtain ⟨v, hv, ev⟩ := atI_in (xs := [V.int 2147483647, V.int 2147483629, V.int 2147483587, V.int 2147483579, V.int 2147483563, V.int 2147483549, V.int 2147483543]) g0 (by show z2.fmod 7 < 7; exact g1)
      obtain ⟨pr, rfl, p0, p1⟩ : ∃ pr : Int, v = V.int pr ∧ 2147483543 ≤ pr ∧ pr ≤ 2147483647 := by
        simp only [List.mem_cons, List.not_mem_nil, or_false] at hv
        rcases hv with rfl | rfl | rfl | rfl | rfl | rfl | rfl <;> exact ⟨_, rfl, by decide, by decide⟩
      refine x_ixL (sql upd_same) ev ?_
      have e2 := at_upd (o := HO.lst [V.int s0, V.int s1, V.int z2]) (u := HO.lst [V.int 2147483647, V.int 2147483629, V.int 2147483587, V.int 2147483579, V.int 2147483563, V.int 2147483549, V.int 2147483543]) hp e1
      have b2 : But a H (upd H1 p (.lst [V.int 2147483647, V.int 2147483629, V.int 2147483587, V.int 2147483579, V.int 2147483563, V.int 2147483549, V.int 2147483543])) := b1.trans (But.of (same_upd hp))
      generalize upd H1 p (.lst [V.int 2147483647, V.int 2147483629, V.int 2147483587, V.int 2147483579, V.int 2147483563, V.int 2147483549, V.int 2147483543]) = H2 at *
      walk_at "rd"
      refine x_rI (C := CPow) ⟨by decide, by decide, by omega⟩ ?_
      walk_at "rd"
      have q0 := Int.fmod_nonneg_of_pos ((s1 + 7919 * z2 + 1) ^ Int.toNat 5) (show 0 < pr by omega)
      have q1 := Int.fmod_lt_of_pos ((s1 + 7919 * z2 + 1) ^ Int.toNat 5) (show 0 < pr by omega)
      generalize ((s1 + 7919 * z2 + 1) ^ Int.toNat 5).fmod pr = fg at *
      have bf : Bd 40 fg := Bd.of q0 (by omega)
      walk_at "rd"
      exact k _ _ (Int.fmod_nonneg_of_pos _ m0) (Int.fmod_lt_of_pos _ m0) ⟨_, _, _, e2, h1, h2, h3', h5'⟩ b2
theorem sc__law_within : FnScope ["_law_one_here", "_law_other"] ["_law_one_here", "_law_other"] (defScope s__law_within) := ⟨rfl, rfl, rfl, by decide +kernel, rfl, by decide +kernel, by decide +kernel⟩
theorem ok__law_within {P : Program} {w : World} {K : PySem.W.Frag} {mg : Str → Option Value} {base : Heap} (T : Txt K mg) : ∃ fd, FnOk P w K mg base CX0 1 (He.ga K "_law_within") fd ["_law_one_here", "_law_other"] sp__law_within ∧ Binds K fd ["_law_one_here", "_law_other"] [] ∧ FunD K d__law_within.name d__law_within.qual d__law_within.params d__law_within.body d__law_within.scope (d__law_within.dvs K) (d__law_within.kws K) (He.fAd K d__law_within.at_) fd := by
  obtain ⟨fd, F⟩ := T.f__law_within
  refine ⟨fd, ?_, F.bindsN fun _ _ _ _ _ _ us hl => match us, hl with | [_, _], _ => rfl, F⟩
  refine F.ok (k := 0) sc__law_within (fun vs H Q E h => ?_) (fun cdv A outer s H vs Q E hr h => ?_)
  · obtain ⟨v, w, o, u, rfl, _⟩ := h
    rfl
  · obtain ⟨v, w, o, u, rfl, x, y, z, k⟩ := h
    refine ⟨_, PSs.nox (pss_cons (ps_if (pt_cmpR cp_isN (pv 0) pe_non (nomark _)) (pss_one (ps_ret pe_bl)) pss_nil)
      (pss_one (ps_ret (pe_and (pe_cmpR cp_notN (pv 1) pe_non (nomark _)) (pe_and (pe_cmpR op_le (pe_ix ix_tup (pv 1) pe_int (fun _ _ => rfl)) (pe_ix ix_tup (pv 0) pe_int (fun _ _ => rfl)) (nomark _)) (pe_one (pe_cmpR op_le (pe_ix ix_tup (pv 0) pe_int (fun _ _ => rfl)) (pe_ix ix_tup (pv 1) pe_int (fun _ _ => rfl)) (nomark _)))))))), ?_⟩
    show (_ : TS) _ [some v, some w] _
    try dsimp only [nk]
    cases o with
    | none =>
      cases x
      walk_at "rd"
      exact k
    | some o =>
      obtain ⟨a, b⟩ := o
      obtain ⟨r, rfl, e⟩ := x
      cases u with
      | none => exact z.elim
      | some u =>
        obtain ⟨c, d⟩ := u
        obtain ⟨r', rfl, e'⟩ := y
        obtain ⟨z1, z2⟩ := z
        walk_at "rd"
        rw [decide_eq_true z2]
        exact k
theorem sc_is_whole : FnScope ["thing"] ["thing"] (defScope s_is_whole) := ⟨rfl, rfl, rfl, by decide +kernel, rfl, by decide +kernel, by decide +kernel⟩
theorem ok_is_whole {P : Program} {w : World} {K : PySem.W.Frag} {mg : Str → Option Value} {base : Heap} (T : Txt K mg) : ∃ fd, FnOk P w K mg base CX0 1 (He.ga K "is_whole") fd ["thing"] sp_is_whole ∧ Binds K fd ["thing"] [] ∧ FunD K d_is_whole.name d_is_whole.qual d_is_whole.params d_is_whole.body d_is_whole.scope (d_is_whole.dvs K) (d_is_whole.kws K) (He.fAd K d_is_whole.at_) fd := by
  obtain ⟨fd, F⟩ := T.f_is_whole
  refine ⟨fd, ?_, F.bindsN fun _ _ _ _ _ _ us hl => match us, hl with | [_], _ => rfl, F⟩
  refine F.ok (k := 0) sc_is_whole (fun vs H Q E h => ?_) (fun cdv A outer s H vs Q E hr h => ?_)
  · obtain ⟨n, rfl, _⟩ := h
    rfl
  · obtain ⟨n, rfl, k⟩ := h
    refine ⟨_, PSs.nox (pss_one (ps_ret (pe_and (pe_callB call_isi (by rfl) T.z_isinstance (by decide +kernel) (pa_cons (pv 0) (pa_cons (pe_bltn (v := .ty "int") (by rfl) T.z_int (by decide +kernel) rfl) pa_nil))) (pe_one (pe_not (pe_callB call_isi (by rfl) T.z_isinstance (by decide +kernel) (pa_cons (pv 0) (pa_cons (pe_bltn (v := .ty "bool") (by rfl) T.z_bool (by decide +kernel) rfl) pa_nil)))))))), ?_⟩
    show (_ : TS) _ [some (.int n)] _
    try dsimp only [nk]
    walk_at "rd"
    refine x_isi (T := "int") (b := true) (by decide +kernel) ?_
    walk_at "rd"
    refine x_isi (T := "bool") (b := false) (by decide +kernel) ?_
    walk_at "rd"
    exact k
theorem sc_Drumu_turn_of : FnScope ["self", "cell", "slope", "root"] ["self", "cell"] (defScope s_Drumu_turn_of) := ⟨rfl, rfl, rfl, by decide +kernel, rfl, by decide +kernel, by decide +kernel⟩
theorem ok_Drumu_turn_of {P : Program} {w : World} {K : PySem.W.Frag} {mg : Str → Option Value} {base : Heap} (T : Txt K mg) : ∃ fd, FnOk P w K mg base CX0 1 (He.ma K (He.ga K "Drum") "_turn_of") fd ["self", "cell"] (sp_Drumu_turn_of K) ∧ Binds K fd ["self", "cell"] [] ∧ FunD K d_Drumu_turn_of.name d_Drumu_turn_of.qual d_Drumu_turn_of.params d_Drumu_turn_of.body d_Drumu_turn_of.scope (d_Drumu_turn_of.dvs K) (d_Drumu_turn_of.kws K) (He.fAd K d_Drumu_turn_of.at_) fd := by
  obtain ⟨fd, F⟩ := T.f_Drumu_turn_of
  refine ⟨fd, ?_, F.bindsN fun _ _ _ _ _ _ us hl => match us, hl with | [_, _], _ => rfl, F⟩
  refine F.ok (k := 0) sc_Drumu_turn_of (fun vs H Q E h => ?_) (fun cdv A outer s H vs Q E hr h => ?_)
  · obtain ⟨p, f, s, c, rfl, _⟩ := h
    rfl
  · obtain ⟨p, f, s, c, rfl, d, h0, h1, k⟩ := h
    refine ⟨_, PSs.nox (pss_cons (ps_if (pt_cmpR op_eq (pe_fld (pv 0) rfl) pe_int (nomark _)) (pss_one (ps_ret (pe_op op_fdivW (pv 1) (pe_fld (pv 0) rfl)))) pss_nil)
      (pss_cons (ps_set (i := 2) sc_Drumu_turn_of.nd rfl (Or.inl rfl) (pe_op op_sub (pe_op op_mulW pe_int (pe_fld (pv 0) rfl)) (pe_fld (pv 0) rfl)))
      (pss_cons (ps_set (i := 3) sc_Drumu_turn_of.nd rfl (Or.inl rfl) (pe_callBfun cr_isqrt rfl T.i_isqrt (pa_cons (pe_op op_add (pe_op op_mulW (pv 2) (pv 2)) (pe_op op_mulW (pe_op op_mulW pe_int (pe_fld (pv 0) rfl)) (pv 1))) pa_nil)))
      (pss_one (ps_ret (pe_op op_fdivW (pe_op op_sub (pv 3) (pv 2)) (pe_op op_mulW pe_int (pe_fld (pv 0) rfl)))))))), ?_⟩
    show (_ : TS) _ [some (.ref p), some (.int c), none, none] _
    try dsimp only [nk]
    have bt : Bd 1000 c := Bd.of h0 h1
    have f1 := d.f1
    have s0 := d.s0
    walk_at "rd"
    refine x_ite (p := s = 0) (fun e => ?_) (fun e => ?_)
    · walk_at "rd"
      have e2 : tOf f s c = c / f := by unfold tOf; rw [if_pos e]
      rw [e2] at k
      exact k
    · walk_at "rd"
      have hN : 0 ≤ (2 * f - s) * (2 * f - s) + 8 * s * c := by
        have a := sq_nn (2 * f - s)
        have b := mul_nn (mul_nn (show (0 : Int) ≤ 8 by decide) s0) h0
        omega
      refine x_isqrt hN (Bd.mono (k := 2000) (by
        have x1 : Bd (51 + 51) ((2 * f - s) * (2 * f - s)) := by
          have f2 := d.f2
          have s2 := d.s2
          have : Bd 51 (2 * f - s) := by unfold Bd; omega
          exact this.mul this
        have x2 : Bd (53 + 1000) (8 * s * c) := by
          have s2 := d.s2
          have : Bd 53 (8 * s) := by unfold Bd; omega
          exact this.mul bt
        exact (x1.add x2).mono (by decide)) (by decide)) ?_
      walk_at "rd"
      have e2 : tOf f s c = (((PySem.Float64.isqrt ((2 * f - s) * (2 * f - s) + 8 * s * c).toNat : Nat) : Int) - (2 * f - s)) / (2 * s) := by unfold tOf; rw [if_neg e]
      rw [e2] at k
      exact k
theorem sc__lone : FnScope ["face", "cell", "side"] ["face"] (defScope s__lone) := ⟨rfl, rfl, rfl, by decide +kernel, rfl, by decide +kernel, by decide +kernel⟩
theorem ok__lone {P : Program} {w : World} {K : PySem.W.Frag} {mg : Str → Option Value} {base : Heap} (T : Txt K mg) : ∃ fd, FnOk P w K mg base CX0 1 (He.ga K "_lone") fd ["face"] sp__lone ∧ Binds K fd ["face"] [] ∧ FunD K d__lone.name d__lone.qual d__lone.params d__lone.body d__lone.scope (d__lone.dvs K) (d__lone.kws K) (He.fAd K d__lone.at_) fd := by
  obtain ⟨fd, F⟩ := T.f__lone
  refine ⟨fd, ?_, F.bindsN fun _ _ _ _ _ _ us hl => match us, hl with | [_], _ => rfl, F⟩
  refine F.ok (k := 0) sc__lone (fun vs H Q E h => ?_) (fun cdv A outer s H vs Q E hr h => ?_)
  · obtain ⟨q, c, i, rfl, _⟩ := h
    rfl
  · obtain ⟨q, c, i, rfl, e, k⟩ := h
    refine ⟨_, PSs.nox (pss_cons (ps_asg (pv 0) (pg_tup rfl (pgs_cons (pg_name (i := 1) sc__lone.nd rfl (Or.inl rfl)) (pgs_cons (pg_name (i := 2) sc__lone.nd rfl (Or.inl rfl)) pgs_nil))))
      (pss_cons (ps_if (pt_cmpR op_eq (pv 2) pe_str (nomark _)) (pss_one (ps_ret (pe_tup (pa_cons pe_non (pa_cons (pe_tup (pa_cons (pv 1) (pa_cons (pv 1) pa_nil))) pa_nil))))) pss_nil)
      (pss_one (ps_ret (pe_tup (pa_cons (pe_tup (pa_cons (pv 1) (pa_cons (pv 1) pa_nil))) (pa_cons pe_non pa_nil))))))), ?_⟩
    show (_ : TS) _ [some (.ref q), none, none] _
    try dsimp only [nk]
    walk_at "rd"
    refine x_rEqIn ?_
    walk_at "rd"
    refine x_iteB (fun g => ?_) (fun g => ?_) <;> subst g
    · walk_at "rd"
      intro r hr
      walk_at "rd"
      intro r2 hr2
      exact k r2 _ _ _ ((same_upd hr).trans (same_upd hr2)) upd_same rfl ⟨r, rfl, at_upd hr2 upd_same⟩
    · walk_at "rd"
      intro r hr
      walk_at "rd"
      intro r2 hr2
      exact k r2 _ _ _ ((same_upd hr).trans (same_upd hr2)) upd_same ⟨r, rfl, at_upd hr2 upd_same⟩ rfl
theorem sc__widened : FnScope ["lowers", "ground", "touches", "wide"] ["lowers", "ground", "touches"] (defScope s__widened) := ⟨rfl, rfl, rfl, by decide +kernel, rfl, by decide +kernel, by decide +kernel⟩
theorem ok__widened {P : Program} {w : World} {K : PySem.W.Frag} {mg : Str → Option Value} {base : Heap} (T : Txt K mg) : ∃ fd, FnOk P w K mg base CX0 1 (He.ga K "_widened") fd ["lowers", "ground", "touches"] sp__widened ∧ Binds K fd ["lowers", "ground", "touches"] [] ∧ FunD K d__widened.name d__widened.qual d__widened.params d__widened.body d__widened.scope (d__widened.dvs K) (d__widened.kws K) (He.fAd K d__widened.at_) fd := by
  obtain ⟨fd, F⟩ := T.f__widened
  refine ⟨fd, ?_, F.bindsN fun _ _ _ _ _ _ us hl => match us, hl with | [_, _, _], _ => rfl, F⟩
  refine F.ok (k := 0) sc__widened (fun vs H Q E h => ?_) (fun cdv A outer s H vs Q E hr h => ?_)
  · obtain ⟨q, lo, hi, r, a, b, t, rfl, _⟩ := h
    rfl
  · obtain ⟨q, lo, hi, r, a, b, t, rfl, e, e', k1, k2⟩ := h
    refine ⟨_, PSs.nox (pss_cons (ps_if (pt_cmpR op_lt (pv 2) pe_int (nomark _)) (pss_one (ps_ret pe_non)) pss_nil)
      (pss_cons (ps_set (i := 3) sc__widened.nd rfl (Or.inl rfl) (pe_op op_fdivW (pv 2) pe_int))
      (pss_one (ps_ret (pe_tup (pa_cons (pe_callB (cl_max rfl) (by rfl) T.z_max (by decide +kernel) (pa_cons (pe_ix ix_tup (pv 0) pe_int (fun _ _ => rfl)) (pa_cons (pe_op op_sub (pe_ix ix_tup (pv 1) pe_int (fun _ _ => rfl)) (pv 3)) pa_nil))) (pa_cons (pe_callB (cl_min rfl) (by rfl) T.z_min (by decide +kernel) (pa_cons (pe_ix ix_tup (pv 0) pe_int (fun _ _ => rfl)) (pa_cons (pe_op op_add (pe_ix ix_tup (pv 1) pe_int (fun _ _ => rfl)) (pv 3)) pa_nil))) pa_nil))))))), ?_⟩
    show (_ : TS) _ [some (.ref q), some (.ref r), some (.int t), none] _
    try dsimp only [nk]
    walk_at "rd"
    refine x_ite (fun z => ?_) (fun z => ?_)
    · walk_at "rd"
      exact k1 z
    · walk_at "rd"
      intro u hu
      exact k2 z u _ (same_upd hu) upd_same
theorem sc__rise : FnScope ["face"] ["face"] (defScope s__rise) := ⟨rfl, rfl, rfl, by decide +kernel, rfl, by decide +kernel, by decide +kernel⟩
theorem ok__rise {P : Program} {w : World} {K : PySem.W.Frag} {mg : Str → Option Value} {base : Heap} (T : Txt K mg) : ∃ fd, FnOk P w K mg base CX0 1 (He.ga K "_rise") fd ["face"] sp__rise ∧ Binds K fd ["face"] [] ∧ FunD K d__rise.name d__rise.qual d__rise.params d__rise.body d__rise.scope (d__rise.dvs K) (d__rise.kws K) (He.fAd K d__rise.at_) fd := by
  obtain ⟨fd, F⟩ := T.f__rise
  refine ⟨fd, ?_, F.bindsN fun _ _ _ _ _ _ us hl => match us, hl with | [_], _ => rfl, F⟩
  refine F.ok (k := 0) sc__rise (fun vs H Q E h => ?_) (fun cdv A outer s H vs Q E hr h => ?_)
  · obtain ⟨q, c, i, rfl, _⟩ := h
    rfl
  · obtain ⟨q, c, i, rfl, e, k⟩ := h
    refine ⟨_, PSs.nox (pss_cons (ps_if (pt_cmpR op_eq (pe_ix ix_tup (pv 0) pe_int (fun _ _ => rfl)) pe_str (nomark _)) (pss_one (ps_ret pe_int)) pss_nil)
      (pss_one (ps_ret pe_int))), ?_⟩
    show (_ : TS) _ [some (.ref q)] _
    try dsimp only [nk]
    walk_at "rd"
    refine x_rEqIn ?_
    walk_at "rd"
    refine x_iteB (fun g => ?_) (fun g => ?_) <;> subst g
    · walk_at "rd"
      exact k
    · walk_at "rd"
      exact k
theorem sc_Drum_step : FnScope ["self"] ["self"] (defScope s_Drum_step) := ⟨rfl, rfl, rfl, by decide +kernel, rfl, by decide +kernel, by decide +kernel⟩
theorem ok_Drum_step {P : Program} {w : World} {K : PySem.W.Frag} {mg : Str → Option Value} {base : Heap} (T : Txt K mg) : ∃ fd, FnOk P w K mg base CX0 1 (He.ma K (He.ga K "Drum") "step") fd ["self"] (sp_Drum_step K) ∧ Binds K fd ["self"] [] ∧ FunD K d_Drum_step.name d_Drum_step.qual d_Drum_step.params d_Drum_step.body d_Drum_step.scope (d_Drum_step.dvs K) (d_Drum_step.kws K) (He.fAd K d_Drum_step.at_) fd := by
  obtain ⟨fd, F⟩ := T.f_Drum_step
  refine ⟨fd, ?_, F.bindsN fun _ _ _ _ _ _ us hl => match us, hl with | [_], _ => rfl, F⟩
  refine F.ok (k := 0) sc_Drum_step (fun vs H Q E h => ?_) (fun cdv A outer s H vs Q E hr h => ?_)
  · obtain ⟨p, f, s, rfl, _⟩ := h
    rfl
  · obtain ⟨p, f, s, rfl, d, k⟩ := h
    refine ⟨_, PSs.nox (pss_one (ps_ret (pe_fld (pv 0) rfl))), ?_⟩
    show (_ : TS) _ [some (.ref p)] _
    try dsimp only [nk]
    walk_at "rd"
    exact k
theorem sc_Drum_first : FnScope ["self"] ["self"] (defScope s_Drum_first) := ⟨rfl, rfl, rfl, by decide +kernel, rfl, by decide +kernel, by decide +kernel⟩
theorem ok_Drum_first {P : Program} {w : World} {K : PySem.W.Frag} {mg : Str → Option Value} {base : Heap} (T : Txt K mg) : ∃ fd, FnOk P w K mg base CX0 1 (He.ma K (He.ga K "Drum") "first") fd ["self"] (sp_Drum_first K) ∧ Binds K fd ["self"] [] ∧ FunD K d_Drum_first.name d_Drum_first.qual d_Drum_first.params d_Drum_first.body d_Drum_first.scope (d_Drum_first.dvs K) (d_Drum_first.kws K) (He.fAd K d_Drum_first.at_) fd := by
  obtain ⟨fd, F⟩ := T.f_Drum_first
  refine ⟨fd, ?_, F.bindsN fun _ _ _ _ _ _ us hl => match us, hl with | [_], _ => rfl, F⟩
  refine F.ok (k := 0) sc_Drum_first (fun vs H Q E h => ?_) (fun cdv A outer s H vs Q E hr h => ?_)
  · obtain ⟨p, f, s, rfl, _⟩ := h
    rfl
  · obtain ⟨p, f, s, rfl, d, k⟩ := h
    refine ⟨_, PSs.nox (pss_one (ps_ret (pe_fld (pv 0) rfl))), ?_⟩
    show (_ : TS) _ [some (.ref p)] _
    try dsimp only [nk]
    walk_at "rd"
    exact k
theorem sc_is_word : FnScope ["words", "thing"] ["words", "thing"] (defScope s_is_word) := ⟨rfl, rfl, rfl, by decide +kernel, rfl, by decide +kernel, by decide +kernel⟩
theorem ok_is_word {P : Program} {w : World} {K : PySem.W.Frag} {mg : Str → Option Value} {base : Heap} (T : Txt K mg) : ∃ fd, FnOk P w K mg base CX0 1 (He.ga K "is_word") fd ["words", "thing"] sp_is_word ∧ Binds K fd ["words", "thing"] [] ∧ FunD K d_is_word.name d_is_word.qual d_is_word.params d_is_word.body d_is_word.scope (d_is_word.dvs K) (d_is_word.kws K) (He.fAd K d_is_word.at_) fd := by
  obtain ⟨fd, F⟩ := T.f_is_word
  refine ⟨fd, ?_, F.bindsN fun _ _ _ _ _ _ us hl => match us, hl with | [_, _], _ => rfl, F⟩
  refine F.ok (k := 0) sc_is_word (fun vs H Q E h => ?_) (fun cdv A outer s H vs Q E hr h => ?_)
  · obtain ⟨p, i, rfl, _⟩ := h
    rfl
  · obtain ⟨p, i, rfl, e, k⟩ := h
    refine ⟨_, PSs.nox (pss_one (ps_ret (pe_and (pe_callB call_isi (by rfl) T.z_isinstance (by decide +kernel) (pa_cons (pv 1) (pa_cons (pe_bltn (v := .ty "str") (by rfl) T.z_str (by decide +kernel) rfl) pa_nil))) (pe_one (pe_cmpR op_in_seq (pv 1) (pv 0) (by with_unfolding_all rfl)))))), ?_⟩
    show (_ : TS) _ [some (.ref p), some (.str (sdS i))] _
    try dsimp only [nk]
    walk_at "rd"
    refine x_isiS (T := "str") (b := true) (by decide +kernel) ?_
    walk_at "rd"
    refine x_inSd e ?_
    exact k
theorem sc_is_tuple_of : FnScope ["many", "thing"] ["many", "thing"] (defScope s_is_tuple_of) := ⟨rfl, rfl, rfl, by decide +kernel, rfl, by decide +kernel, by decide +kernel⟩
theorem ok_is_tuple_of {P : Program} {w : World} {K : PySem.W.Frag} {mg : Str → Option Value} {base : Heap} (T : Txt K mg) : ∃ fd, FnOk P w K mg base CX0 1 (He.ga K "is_tuple_of") fd ["many", "thing"] sp_is_tuple_of ∧ Binds K fd ["many", "thing"] [] ∧ FunD K d_is_tuple_of.name d_is_tuple_of.qual d_is_tuple_of.params d_is_tuple_of.body d_is_tuple_of.scope (d_is_tuple_of.dvs K) (d_is_tuple_of.kws K) (He.fAd K d_is_tuple_of.at_) fd := by
  obtain ⟨fd, F⟩ := T.f_is_tuple_of
  refine ⟨fd, ?_, F.bindsN fun _ _ _ _ _ _ us hl => match us, hl with | [_, _], _ => rfl, F⟩
  refine F.ok (k := 0) sc_is_tuple_of (fun vs H Q E h => ?_) (fun cdv A outer s H vs Q E hr h => ?_)
  · obtain ⟨m, p, xs, rfl, _⟩ := h
    rfl
  · obtain ⟨m, p, xs, rfl, e, k⟩ := h
    refine ⟨_, PSs.nox (pss_one (ps_ret (pe_and (pe_callB call_isi (by rfl) T.z_isinstance (by decide +kernel) (pa_cons (pv 1) (pa_cons (pe_bltn (v := .ty "tuple") (by rfl) T.z_tuple (by decide +kernel) rfl) pa_nil))) (pe_one (pe_cmpR op_eq (pe_callB cl_len (by rfl) T.z_len (by decide +kernel) (pa_cons (pv 1) pa_nil)) (pv 0) (nomark _)))))), ?_⟩
    show (_ : TS) _ [some (.int m), some (.ref p)] _
    try dsimp only [nk]
    walk_at "rd"
    refine x_isiT (T := "tuple") (b := true) e (by decide +kernel) ?_
    walk_at "rd"
    exact k
theorem sc__law_begins : FnScope ["_law_first", "_law_step", "_law_turn"] ["_law_first", "_law_step", "_law_turn"] (defScope s__law_begins) := ⟨rfl, rfl, rfl, by decide +kernel, rfl, by decide +kernel, by decide +kernel⟩
theorem ok__law_begins {P : Program} {w : World} {K : PySem.W.Frag} {mg : Str → Option Value} {base : Heap} (T : Txt K mg) : ∃ fd, FnOk P w K mg base CX0 1 (He.ga K "_law_begins") fd ["_law_first", "_law_step", "_law_turn"] sp__law_begins ∧ Binds K fd ["_law_first", "_law_step", "_law_turn"] [] ∧ FunD K d__law_begins.name d__law_begins.qual d__law_begins.params d__law_begins.body d__law_begins.scope (d__law_begins.dvs K) (d__law_begins.kws K) (He.fAd K d__law_begins.at_) fd := by
  obtain ⟨fd, F⟩ := T.f__law_begins
  refine ⟨fd, ?_, F.bindsN fun _ _ _ _ _ _ us hl => match us, hl with | [_, _, _], _ => rfl, F⟩
  refine F.ok (k := 0) sc__law_begins (fun vs H Q E h => ?_) (fun cdv A outer s H vs Q E hr h => ?_)
  · obtain ⟨f, s, t, rfl, _⟩ := h
    rfl
  · obtain ⟨f, s, t, rfl, bf, bs, bt, k⟩ := h
    refine ⟨_, PSs.nox (pss_one (ps_ret (pe_op op_add (pe_op op_mulW (pv 2) (pv 0)) (pe_op op_fdivW (pe_op op_mulW (pe_op op_mulW (pv 1) (pv 2)) (pe_op op_sub (pv 2) pe_int)) pe_int)))), ?_⟩
    show (_ : TS) _ [some (.int f), some (.int s), some (.int t)] _
    try dsimp only [nk]
    rw [← bg_law] at k
    walk_at "rd"
    exact k
theorem sc__law_common : FnScope ["_law_one_here", "_law_other"] ["_law_one_here", "_law_other"] (defScope s__law_common) := ⟨rfl, rfl, rfl, by decide +kernel, rfl, by decide +kernel, by decide +kernel⟩
theorem ok__law_common {P : Program} {w : World} {K : PySem.W.Frag} {mg : Str → Option Value} {base : Heap} (T : Txt K mg) : ∃ fd, FnOk P w K mg base CX0 1 (He.ga K "_law_common") fd ["_law_one_here", "_law_other"] sp__law_common ∧ Binds K fd ["_law_one_here", "_law_other"] [] ∧ FunD K d__law_common.name d__law_common.qual d__law_common.params d__law_common.body d__law_common.scope (d__law_common.dvs K) (d__law_common.kws K) (He.fAd K d__law_common.at_) fd := by
  obtain ⟨fd, F⟩ := T.f__law_common
  refine ⟨fd, ?_, F.bindsN fun _ _ _ _ _ _ us hl => match us, hl with | [_, _], _ => rfl, F⟩
  refine F.ok (k := 0) sc__law_common (fun vs H Q E h => ?_) (fun cdv A outer s H vs Q E hr h => ?_)
  · obtain ⟨x, y, rfl, _⟩ := h
    rfl
  · obtain ⟨x, y, rfl, x0, y0, k⟩ := h
    refine ⟨_, PSs.nox (pss_cons (ps_while PassesOwn.never (pt_cmpR op_gt (pv 1) pe_int (nomark _)) (pss_one (ps_par (i := 0) (j := 1) (by rfl) sc__law_common.nd rfl rfl (by decide) rfl rfl (pa_cons (pv 1) (pa_cons (pe_op op_modN (pv 0) (pv 1)) pa_nil)) (by rfl))))
      (pss_one (ps_ret (pv 0)))), ?_⟩
    show (_ : TS) _ [some (.int x), some (.int y)] _
    try dsimp only [nk]
    walk_at "rd"
    refine x_while (fun σ H' => H' = H ∧ ∃ u v : Int, σ = [some (.int u), some (.int v)] ∧ 0 ≤ u ∧ 0 ≤ v ∧ gcdI u v = gcdI x y) (fun σ => (sI 1 σ).toNat) ⟨rfl, x, y, rfl, x0, y0, rfl⟩ ?_
    rintro σ H1 ⟨rfl, u, v, rfl, u0, v0, g⟩
    walk_at "rd"
    refine x_wh (fun c => ?_) (fun c => ?_)
    · walk_at "rd"
      have r0 := Int.fmod_nonneg_of_pos u c
      have r1 := Int.fmod_lt_of_pos u c
      refine ⟨⟨rfl, v, u.fmod v, rfl, v0, r0, by rw [gcd_turn u0 c, g]⟩, ?_⟩
      show (u.fmod v).toNat < v.toNat
      omega
    · walk_at "rd"
      have e : v = 0 := by omega
      subst e
      rw [gcd_zero u0] at g
      rw [← g] at k
      exact k
theorem sc__law_source_of : FnScope ["_law_cell"] ["_law_cell"] (defScope s__law_source_of) := ⟨rfl, rfl, rfl, by decide +kernel, rfl, by decide +kernel, by decide +kernel⟩
theorem ok__law_source_of {P : Program} {w : World} {K : PySem.W.Frag} {mg : Str → Option Value} {base : Heap} (T : Txt K mg) : ∃ fd, FnOk P w K mg base CX0 1 (He.ga K "_law_source_of") fd ["_law_cell"] sp__law_source_of ∧ Binds K fd ["_law_cell"] [] ∧ FunD K d__law_source_of.name d__law_source_of.qual d__law_source_of.params d__law_source_of.body d__law_source_of.scope (d__law_source_of.dvs K) (d__law_source_of.kws K) (He.fAd K d__law_source_of.at_) fd := by
  obtain ⟨fd, F⟩ := T.f__law_source_of
  refine ⟨fd, ?_, F.bindsN fun _ _ _ _ _ _ us hl => match us, hl with | [_], _ => rfl, F⟩
  refine F.ok (k := 0) sc__law_source_of (fun vs H Q E h => ?_) (fun cdv A outer s H vs Q E hr h => ?_)
  · obtain ⟨c, rfl, _⟩ := h
    rfl
  · obtain ⟨c, rfl, k⟩ := h
    refine ⟨_, PSs.nox (pss_one (ps_ret (pe_lst (pa_cons (pe_op op_mul (pv 0) (pe_callTy cl_int (by rfl) T.z_int (by decide +kernel) (pa_cons (pe_cmpR op_ge (pv 0) (pe_pw (r := 1000000000000000000) ⟨by decide, by decide, by decide⟩ (by decide +kernel)) (nomark _)) pa_nil))) (pa_cons (pe_op op_modN (pv 0) pe_int) (pa_cons pe_int pa_nil)))))), ?_⟩
    show (_ : TS) _ [some (.int c)] _
    try dsimp only [nk]
    walk_at "rd"
    refine x_rI (C := CMul) (Or.inr (by split <;> decide)) ?_
    walk_at "rd"
    intro q hq
    exact k q _ hq (same_upd hq) ⟨_, _, _, upd_same, Int.fmod_nonneg_of_pos _ (by decide), Int.fmod_lt_of_pos _ (by decide), by decide, by decide⟩
theorem sc__law_great : FnScope ["_law_source", "_law_many", "_law_found", "_law_k"] ["_law_source", "_law_many"] (defScope s__law_great) := ⟨rfl, rfl, rfl, by decide +kernel, rfl, by decide +kernel, by decide +kernel⟩
theorem ok__law_great {P : Program} {w : World} {K : PySem.W.Frag} {mg : Str → Option Value} {base : Heap} (T : Txt K mg) : ∃ fd, FnOk P w K mg base CX0 2 (He.ga K "_law_great") fd ["_law_source", "_law_many"] sp__law_great ∧ Binds K fd ["_law_source", "_law_many"] [] ∧ FunD K d__law_great.name d__law_great.qual d__law_great.params d__law_great.body d__law_great.scope (d__law_great.dvs K) (d__law_great.kws K) (He.fAd K d__law_great.at_) fd := by
  obtain ⟨fd__law_next, G__law_next, b__law_next, F__law_next⟩ := ok__law_next (P := P) (w := w) (base := base) T
  obtain ⟨fd, F⟩ := T.f__law_great
  refine ⟨fd, ?_, F.bindsN fun _ _ _ _ _ _ us hl => match us, hl with | [_, _], _ => rfl, F⟩
  refine F.ok (k := 1) sc__law_great (fun vs H Q E h => ?_) (fun cdv A outer s H vs Q E hr h => ?_)
  · obtain ⟨a, n, m, rfl, _⟩ := h
    rfl
  · obtain ⟨a, n, m, rfl, hs, hn, m0, m1, k⟩ := h
    refine ⟨_, PSs.nox (pss_cons (ps_set (i := 2) sc__law_great.nd rfl (Or.inl rfl) pe_int)
      (pss_cons (ps_for PassesOwn.never rfl (pi_range1 rfl T.z_range (pa_cons pe_int pa_nil)) (pg_name (i := 3) sc__law_great.nd rfl (Or.inl rfl)) (pss_one (ps_set (i := 2) sc__law_great.nd rfl (Or.inl rfl) (pe_op op_add (pe_op op_mulW (pv 2) (pe_pw (r := 1000000000) ⟨by decide, by decide, by decide⟩ (by decide +kernel))) (pe_call G__law_next (hr.mono (by decide)) rfl T.g__law_next T.k__law_next b__law_next .nil pass0 (pa_cons (pv 0) (pa_cons (pe_pw (r := 1000000000) ⟨by decide, by decide, by decide⟩ (by decide +kernel)) pa_nil)))))))
      (pss_one (ps_ret (pe_op op_modN (pv 2) (pv 1)))))), ?_⟩
    show (_ : TS) _ [some (.ref a), some (.int m), none, none] _
    try dsimp only [nk]
    walk_at "rd"
    refine x_forR (lo := 0) (n := 3) (fun i σ H' => ∃ (x : Int) (v : Option V), σ = [some (.ref a), some (.int m), some (.int x), v] ∧ 0 ≤ x ∧ x < 10 ^ (9 * i) ∧ Src H' a (n + i) ∧ But a H H') ⟨0, _, rfl, by decide, by decide, by simpa using hs, But.refl _ _⟩ ?_ ?_
    · rintro i σ H1 hi ⟨x, v, rfl, x0, x1, hs1, b1⟩
      have bx : Bd 200 x := Bd.of x0 (by
        rcases (by omega : i = 0 ∨ i = 1 ∨ i = 2) with rfl | rfl | rfl <;> omega)
      walk_at "rd"
      refine y_next (by walk_at "src") (by omega) (by omega) (by omega) fun r H2 r0 r1 hs2 b2 => ?_
      walk_at "rd"
      refine ⟨_, _, rfl, by omega, ?_, hs2.mono (by omega), b1.trans b2⟩
      rcases (by omega : i = 0 ∨ i = 1 ∨ i = 2) with rfl | rfl | rfl <;> omega
    · rintro σ H1 ⟨x, v, rfl, x0, x1, hs1, b1⟩
      walk_at "rd"
      exact k _ _ (Int.fmod_nonneg_of_pos _ m0) (Int.fmod_lt_of_pos _ m0) hs1 b1
theorem sc__law_all_within : FnScope ["_law_one_here", "_law_other"] ["_law_one_here", "_law_other"] (defScope s__law_all_within) := ⟨rfl, rfl, rfl, by decide +kernel, rfl, by decide +kernel, by decide +kernel⟩
theorem ok__law_all_within {P : Program} {w : World} {K : PySem.W.Frag} {mg : Str → Option Value} {base : Heap} (T : Txt K mg) : ∃ fd, FnOk P w K mg base CX0 2 (He.ga K "_law_all_within") fd ["_law_one_here", "_law_other"] sp__law_all_within ∧ Binds K fd ["_law_one_here", "_law_other"] [] ∧ FunD K d__law_all_within.name d__law_all_within.qual d__law_all_within.params d__law_all_within.body d__law_all_within.scope (d__law_all_within.dvs K) (d__law_all_within.kws K) (He.fAd K d__law_all_within.at_) fd := by
  obtain ⟨fd__law_within, G__law_within, b__law_within, F__law_within⟩ := ok__law_within (P := P) (w := w) (base := base) T
  obtain ⟨fd, F⟩ := T.f__law_all_within
  refine ⟨fd, ?_, F.bindsN fun _ _ _ _ _ _ us hl => match us, hl with | [_, _], _ => rfl, F⟩
  refine F.ok (k := 1) sc__law_all_within (fun vs H Q E h => ?_) (fun cdv A outer s H vs Q E hr h => ?_)
  · obtain ⟨p, q, v, w, v', w', o, u, o', u', rfl, _⟩ := h
    rfl
  · obtain ⟨p, q, v, w, v', w', o, u, o', u', rfl, e, e', x, y, x', y', z, z', k⟩ := h
    refine ⟨_, PSs.nox (pss_one (ps_ret (pe_and (pe_call G__law_within (hr.mono (by decide)) rfl T.g__law_within T.k__law_within b__law_within .nil pass0 (pa_cons (pe_ix ix_tup (pv 0) pe_int (fun _ _ => rfl)) (pa_cons (pe_ix ix_tup (pv 1) pe_int (fun _ _ => rfl)) pa_nil))) (pe_one (pe_call G__law_within (hr.mono (by decide)) rfl T.g__law_within T.k__law_within b__law_within .nil pass0 (pa_cons (pe_ix ix_tup (pv 0) pe_int (fun _ _ => rfl)) (pa_cons (pe_ix ix_tup (pv 1) pe_int (fun _ _ => rfl)) pa_nil))))))), ?_⟩
    show (_ : TS) _ [some (.ref p), some (.ref q)] _
    try dsimp only [nk]
    walk_at "rd"
    refine y_law_within x x' z ?_
    walk_at "rd"
    refine y_law_within y y' z' ?_
    walk_at "rd"
    exact k
theorem sc_is_from : FnScope ["low", "thing"] ["low", "thing"] (defScope s_is_from) := ⟨rfl, rfl, rfl, by decide +kernel, rfl, by decide +kernel, by decide +kernel⟩
theorem ok_is_from {P : Program} {w : World} {K : PySem.W.Frag} {mg : Str → Option Value} {base : Heap} (T : Txt K mg) : ∃ fd, FnOk P w K mg base CX0 2 (He.ga K "is_from") fd ["low", "thing"] sp_is_from ∧ Binds K fd ["low", "thing"] [] ∧ FunD K d_is_from.name d_is_from.qual d_is_from.params d_is_from.body d_is_from.scope (d_is_from.dvs K) (d_is_from.kws K) (He.fAd K d_is_from.at_) fd := by
  obtain ⟨fd_is_whole, G_is_whole, b_is_whole, F_is_whole⟩ := ok_is_whole (P := P) (w := w) (base := base) T
  obtain ⟨fd, F⟩ := T.f_is_from
  refine ⟨fd, ?_, F.bindsN fun _ _ _ _ _ _ us hl => match us, hl with | [_, _], _ => rfl, F⟩
  refine F.ok (k := 1) sc_is_from (fun vs H Q E h => ?_) (fun cdv A outer s H vs Q E hr h => ?_)
  · obtain ⟨l, n, rfl, _⟩ := h
    rfl
  · obtain ⟨l, n, rfl, k⟩ := h
    refine ⟨_, PSs.nox (pss_one (ps_ret (pe_and (pe_call G_is_whole (hr.mono (by decide)) rfl T.g_is_whole T.k_is_whole b_is_whole .nil pass0 (pa_cons (pv 1) pa_nil)) (pe_one (pe_cmpR op_ge (pv 1) (pv 0) (nomark _)))))), ?_⟩
    show (_ : TS) _ [some (.int l), some (.int n)] _
    try dsimp only [nk]
    walk_at "rd"
    exact k
theorem sc__sectors : FnScope ["drum"] ["drum"] (defScope s__sectors) := ⟨rfl, rfl, rfl, by decide +kernel, rfl, by decide +kernel, by decide +kernel⟩
theorem ok__sectors {P : Program} {w : World} {K : PySem.W.Frag} {mg : Str → Option Value} {base : Heap} (T : Txt K mg) : ∃ fd, FnOk P w K mg base CX0 2 (He.ga K "_sectors") fd ["drum"] (sp__sectors K) ∧ Binds K fd ["drum"] [] ∧ FunD K d__sectors.name d__sectors.qual d__sectors.params d__sectors.body d__sectors.scope (d__sectors.dvs K) (d__sectors.kws K) (He.fAd K d__sectors.at_) fd := by
  obtain ⟨fd_Drum_step, G_Drum_step, b_Drum_step, F_Drum_step⟩ := ok_Drum_step (P := P) (w := w) (base := base) T
  obtain ⟨fd_Drum_first, G_Drum_first, b_Drum_first, F_Drum_first⟩ := ok_Drum_first (P := P) (w := w) (base := base) T
  obtain ⟨fd, F⟩ := T.f__sectors
  refine ⟨fd, ?_, F.bindsN fun _ _ _ _ _ _ us hl => match us, hl with | [_], _ => rfl, F⟩
  refine F.ok (k := 1) sc__sectors (fun vs H Q E h => ?_) (fun cdv A outer s H vs Q E hr h => ?_)
  · obtain ⟨p, f, s, rfl, _⟩ := h
    rfl
  · obtain ⟨p, f, s, rfl, d, k⟩ := h
    refine ⟨_, PSs.nox (pss_one (ps_ret (pe_callBfun cr_gcd rfl T.i_gcd (pa_cons (pe_meth0 (pv 0) T.cl_Drum T.m_Drum_first G_Drum_first (hr.mono (by decide)) b_Drum_first .nil pass0) (pa_cons (pe_meth0 (pv 0) T.cl_Drum T.m_Drum_step G_Drum_step (hr.mono (by decide)) b_Drum_step .nil pass0) pa_nil))))), ?_⟩
    show (_ : TS) _ [some (.ref p)] _
    try dsimp only [nk]
    walk_at "rd"
    refine x_gcd ?_
    exact k
theorem sc__law_one : FnScope ["_law_source", "_law_some"] ["_law_source", "_law_some"] (defScope s__law_one) := ⟨rfl, rfl, rfl, by decide +kernel, rfl, by decide +kernel, by decide +kernel⟩
theorem ok__law_one {P : Program} {w : World} {K : PySem.W.Frag} {mg : Str → Option Value} {base : Heap} (T : Txt K mg) : ∃ fd, FnOk P w K mg base CX0 2 (He.ga K "_law_one") fd ["_law_source", "_law_some"] sp__law_one ∧ Binds K fd ["_law_source", "_law_some"] [] ∧ FunD K d__law_one.name d__law_one.qual d__law_one.params d__law_one.body d__law_one.scope (d__law_one.dvs K) (d__law_one.kws K) (He.fAd K d__law_one.at_) fd := by
  obtain ⟨fd__law_next, G__law_next, b__law_next, F__law_next⟩ := ok__law_next (P := P) (w := w) (base := base) T
  obtain ⟨fd, F⟩ := T.f__law_one
  refine ⟨fd, ?_, F.bindsN fun _ _ _ _ _ _ us hl => match us, hl with | [_, _], _ => rfl, F⟩
  refine F.ok (k := 1) sc__law_one (fun vs H Q E h => ?_) (fun cdv A outer s H vs Q E hr h => ?_)
  · obtain ⟨a, p, n, xs, rfl, _⟩ := h
    rfl
  · obtain ⟨a, p, n, xs, rfl, hs, hn, hp, hne, h0, h1, k⟩ := h
    refine ⟨_, PSs.nox (pss_one (ps_ret (pe_ix ix_list (pv 1) (pe_call G__law_next (hr.mono (by decide)) rfl T.g__law_next T.k__law_next b__law_next .nil pass0 (pa_cons (pv 0) (pa_cons (pe_callB cl_len (by rfl) T.z_len (by decide +kernel) (pa_cons (pv 1) pa_nil)) pa_nil))) (fun _ _ => rfl)))), ?_⟩
    show (_ : TS) _ [some (.ref a), some (.ref p)] _
    try dsimp only [nk]
    walk_at "rd"
    refine y_next hs hn (by omega) (by have : (xs.length : Int) < 1000 := by omega
                                       omega) fun r H' r0 r1 hs' b => ?_
    obtain ⟨v, hv, ev⟩ := atI_in r0 r1
    refine x_ixL (sql (b _ _ hne hp)) ev ?_
    exact k v H' hv hs' b
theorem sc_check_turn : FnScope ["turn"] ["turn"] (defScope s_check_turn) := ⟨rfl, rfl, rfl, by decide +kernel, rfl, by decide +kernel, by decide +kernel⟩
theorem ok_check_turn {P : Program} {w : World} {K : PySem.W.Frag} {mg : Str → Option Value} {base : Heap} (T : Txt K mg) : ∃ fd, FnOk P w K mg base CX0 3 (He.ga K "check_turn") fd ["turn"] sp_check_turn ∧ Binds K fd ["turn"] [] ∧ FunD K d_check_turn.name d_check_turn.qual d_check_turn.params d_check_turn.body d_check_turn.scope (d_check_turn.dvs K) (d_check_turn.kws K) (He.fAd K d_check_turn.at_) fd := by
  obtain ⟨fd_is_from, G_is_from, b_is_from, F_is_from⟩ := ok_is_from (P := P) (w := w) (base := base) T
  obtain ⟨fd, F⟩ := T.f_check_turn
  refine ⟨fd, ?_, F.bindsN fun _ _ _ _ _ _ us hl => match us, hl with | [_], _ => rfl, F⟩
  refine F.ok (k := 2) sc_check_turn (fun vs H Q E h => ?_) (fun cdv A outer s H vs Q E hr h => ?_)
  · obtain ⟨n, rfl, _⟩ := h
    rfl
  · obtain ⟨n, rfl, h0, k⟩ := h
    refine ⟨_, PSs.nox (pss_one (ps_if (pt_not (pt_val (pe_call G_is_from (hr.mono (by decide)) rfl T.g_is_from T.k_is_from b_is_from .nil pass0 (pa_cons pe_int (pa_cons (pv 0) pa_nil))))) (pss_one ps_never) pss_nil)), ?_⟩
    show (_ : TS) _ [some (.int n)] _
    try dsimp only [nk]
    walk_at "rd"
    exact k
theorem sc_check_cell : FnScope ["cell"] ["cell"] (defScope s_check_cell) := ⟨rfl, rfl, rfl, by decide +kernel, rfl, by decide +kernel, by decide +kernel⟩
theorem ok_check_cell {P : Program} {w : World} {K : PySem.W.Frag} {mg : Str → Option Value} {base : Heap} (T : Txt K mg) : ∃ fd, FnOk P w K mg base CX0 3 (He.ga K "check_cell") fd ["cell"] sp_check_cell ∧ Binds K fd ["cell"] [] ∧ FunD K d_check_cell.name d_check_cell.qual d_check_cell.params d_check_cell.body d_check_cell.scope (d_check_cell.dvs K) (d_check_cell.kws K) (He.fAd K d_check_cell.at_) fd := by
  obtain ⟨fd_is_from, G_is_from, b_is_from, F_is_from⟩ := ok_is_from (P := P) (w := w) (base := base) T
  obtain ⟨fd, F⟩ := T.f_check_cell
  refine ⟨fd, ?_, F.bindsN fun _ _ _ _ _ _ us hl => match us, hl with | [_], _ => rfl, F⟩
  refine F.ok (k := 2) sc_check_cell (fun vs H Q E h => ?_) (fun cdv A outer s H vs Q E hr h => ?_)
  · obtain ⟨n, rfl, _⟩ := h
    rfl
  · obtain ⟨n, rfl, h0, k⟩ := h
    refine ⟨_, PSs.nox (pss_one (ps_if (pt_not (pt_val (pe_call G_is_from (hr.mono (by decide)) rfl T.g_is_from T.k_is_from b_is_from .nil pass0 (pa_cons pe_int (pa_cons (pv 0) pa_nil))))) (pss_one ps_never) pss_nil)), ?_⟩
    show (_ : TS) _ [some (.int n)] _
    try dsimp only [nk]
    walk_at "rd"
    exact k
theorem sc_is_below : FnScope ["many", "thing"] ["many", "thing"] (defScope s_is_below) := ⟨rfl, rfl, rfl, by decide +kernel, rfl, by decide +kernel, by decide +kernel⟩
theorem ok_is_below {P : Program} {w : World} {K : PySem.W.Frag} {mg : Str → Option Value} {base : Heap} (T : Txt K mg) : ∃ fd, FnOk P w K mg base CX0 3 (He.ga K "is_below") fd ["many", "thing"] sp_is_below ∧ Binds K fd ["many", "thing"] [] ∧ FunD K d_is_below.name d_is_below.qual d_is_below.params d_is_below.body d_is_below.scope (d_is_below.dvs K) (d_is_below.kws K) (He.fAd K d_is_below.at_) fd := by
  obtain ⟨fd_is_from, G_is_from, b_is_from, F_is_from⟩ := ok_is_from (P := P) (w := w) (base := base) T
  obtain ⟨fd, F⟩ := T.f_is_below
  refine ⟨fd, ?_, F.bindsN fun _ _ _ _ _ _ us hl => match us, hl with | [_, _], _ => rfl, F⟩
  refine F.ok (k := 2) sc_is_below (fun vs H Q E h => ?_) (fun cdv A outer s H vs Q E hr h => ?_)
  · obtain ⟨m, n, rfl, _⟩ := h
    rfl
  · obtain ⟨m, n, rfl, h0, k⟩ := h
    refine ⟨_, PSs.nox (pss_one (ps_ret (pe_and (pe_call G_is_from (hr.mono (by decide)) rfl T.g_is_from T.k_is_from b_is_from .nil pass0 (pa_cons pe_int (pa_cons (pv 1) pa_nil))) (pe_one (pe_cmpR op_lt (pv 1) (pv 0) (nomark _)))))), ?_⟩
    show (_ : TS) _ [some (.int m), some (.int n)] _
    try dsimp only [nk]
    walk_at "rd"
    exact k
theorem sc_check_length : FnScope ["length"] ["length"] (defScope s_check_length) := ⟨rfl, rfl, rfl, by decide +kernel, rfl, by decide +kernel, by decide +kernel⟩
theorem ok_check_length {P : Program} {w : World} {K : PySem.W.Frag} {mg : Str → Option Value} {base : Heap} (T : Txt K mg) : ∃ fd, FnOk P w K mg base CX0 3 (He.ga K "check_length") fd ["length"] sp_check_length ∧ Binds K fd ["length"] [] ∧ FunD K d_check_length.name d_check_length.qual d_check_length.params d_check_length.body d_check_length.scope (d_check_length.dvs K) (d_check_length.kws K) (He.fAd K d_check_length.at_) fd := by
  obtain ⟨fd_is_from, G_is_from, b_is_from, F_is_from⟩ := ok_is_from (P := P) (w := w) (base := base) T
  obtain ⟨fd, F⟩ := T.f_check_length
  refine ⟨fd, ?_, F.bindsN fun _ _ _ _ _ _ us hl => match us, hl with | [_], _ => rfl, F⟩
  refine F.ok (k := 2) sc_check_length (fun vs H Q E h => ?_) (fun cdv A outer s H vs Q E hr h => ?_)
  · obtain ⟨n, rfl, _⟩ := h
    rfl
  · obtain ⟨n, rfl, h0, k⟩ := h
    refine ⟨_, PSs.nox (pss_one (ps_if (pt_not (pt_val (pe_call G_is_from (hr.mono (by decide)) rfl T.g_is_from T.k_is_from b_is_from .nil pass0 (pa_cons pe_int (pa_cons (pv 0) pa_nil))))) (pss_one ps_never) pss_nil)), ?_⟩
    show (_ : TS) _ [some (.int n)] _
    try dsimp only [nk]
    walk_at "rd"
    exact k
theorem sc_check_beats : FnScope ["beats"] ["beats"] (defScope s_check_beats) := ⟨rfl, rfl, rfl, by decide +kernel, rfl, by decide +kernel, by decide +kernel⟩
theorem ok_check_beats {P : Program} {w : World} {K : PySem.W.Frag} {mg : Str → Option Value} {base : Heap} (T : Txt K mg) : ∃ fd, FnOk P w K mg base CX0 3 (He.ga K "check_beats") fd ["beats"] sp_check_beats ∧ Binds K fd ["beats"] [] ∧ FunD K d_check_beats.name d_check_beats.qual d_check_beats.params d_check_beats.body d_check_beats.scope (d_check_beats.dvs K) (d_check_beats.kws K) (He.fAd K d_check_beats.at_) fd := by
  obtain ⟨fd_is_from, G_is_from, b_is_from, F_is_from⟩ := ok_is_from (P := P) (w := w) (base := base) T
  obtain ⟨fd, F⟩ := T.f_check_beats
  refine ⟨fd, ?_, F.bindsN fun _ _ _ _ _ _ us hl => match us, hl with | [_], _ => rfl, F⟩
  refine F.ok (k := 2) sc_check_beats (fun vs H Q E h => ?_) (fun cdv A outer s H vs Q E hr h => ?_)
  · obtain ⟨n, rfl, _⟩ := h
    rfl
  · obtain ⟨n, rfl, h0, k⟩ := h
    refine ⟨_, PSs.nox (pss_one (ps_if (pt_not (pt_val (pe_call G_is_from (hr.mono (by decide)) rfl T.g_is_from T.k_is_from b_is_from .nil pass0 (pa_cons pe_int (pa_cons (pv 0) pa_nil))))) (pss_one ps_never) pss_nil)), ?_⟩
    show (_ : TS) _ [some (.int n)] _
    try dsimp only [nk]
    walk_at "rd"
    exact k
theorem sc_Drumu__initu_ : FnScope ["self", "first", "step"] ["self", "first", "step"] (defScope s_Drumu__initu_) := ⟨rfl, rfl, rfl, by decide +kernel, rfl, by decide +kernel, by decide +kernel⟩
theorem ok_Drumu__initu_ {P : Program} {w : World} {K : PySem.W.Frag} {mg : Str → Option Value} {base : Heap} (T : Txt K mg) : ∃ fd, FnOk P w K mg base CX0 3 (He.ma K (He.ga K "Drum") "__init__") fd ["self", "first", "step"] (sp_Drumu__initu_ K) ∧ Binds K fd ["self", "first", "step"] [] ∧ FunD K d_Drumu__initu_.name d_Drumu__initu_.qual d_Drumu__initu_.params d_Drumu__initu_.body d_Drumu__initu_.scope (d_Drumu__initu_.dvs K) (d_Drumu__initu_.kws K) (He.fAd K d_Drumu__initu_.at_) fd := by
  obtain ⟨fd_is_from, G_is_from, b_is_from, F_is_from⟩ := ok_is_from (P := P) (w := w) (base := base) T
  obtain ⟨fd, F⟩ := T.f_Drumu__initu_
  refine ⟨fd, ?_, F.bindsN fun _ _ _ _ _ _ us hl => match us, hl with | [_, _, _], _ => rfl, F⟩
  obtain ⟨tg, hc_TOO_GREAT⟩ := T.c_TOO_GREAT
  refine F.ok (k := 2) sc_Drumu__initu_ (fun vs H Q E h => ?_) (fun cdv A outer s H vs Q E hr h => ?_)
  · obtain ⟨p, dx, f, s, rfl, _⟩ := h
    rfl
  · obtain ⟨p, dx, f, s, rfl, hp, f1, f2, s1, s2, k⟩ := h
    refine ⟨_, PSs.nox (pss_cons (ps_if (PW.pt (pw_or (pt_not (pt_val (pe_call G_is_from (hr.mono (by decide)) rfl T.g_is_from T.k_is_from b_is_from .nil pass0 (pa_cons pe_int (pa_cons (pv 1) pa_nil))))) (pw_or1 (pt_cmpR op_ge (pv 1) (pe_glob (v := .int 1000000000000000) rfl hc_TOO_GREAT ⟨_, rfl⟩) (nomark _))))) (pss_one ps_never) pss_nil)
      (pss_cons (ps_if (PW.pt (pw_or (pt_not (pt_val (pe_call G_is_from (hr.mono (by decide)) rfl T.g_is_from T.k_is_from b_is_from .nil pass0 (pa_cons pe_int (pa_cons (pv 2) pa_nil))))) (pw_or1 (pt_cmpR op_ge (pv 2) (pe_glob (v := .int 1000000000000000) rfl hc_TOO_GREAT ⟨_, rfl⟩) (nomark _))))) (pss_one ps_never) pss_nil)
      (pss_cons (ps_fld (pv 0) (pv 1) rfl)
      (pss_one (ps_fld (pv 0) (pv 2) rfl))))), ?_⟩
    show (_ : TS) _ [some (.ref p), some (.int f), some (.int s)] _
    try dsimp only [nk]
    walk_at "rd"
    refine ⟨_, rfl, _, rfl, p, _, dx, _, rfl, hp, T.cl_Drum, T.n_first, by decide, ?_⟩
    refine ⟨_, rfl, _, rfl, p, _, dx, _, rfl, upd_same, T.cl_Drum, T.n_step, (by show 1 < 1000; decide), ?_⟩
    rw [upd_upd]
    exact k
theorem sc__law_drawn : FnScope ["_law_source", "_law_lowers", "_law_uppers", "_law_some", "_law_low", "_law_high", "_law_wide", "_law_j"] ["_law_source", "_law_lowers", "_law_uppers"] (defScope s__law_drawn) := ⟨rfl, rfl, rfl, by decide +kernel, rfl, by decide +kernel, by decide +kernel⟩
theorem ok__law_drawn {P : Program} {w : World} {K : PySem.W.Frag} {mg : Str → Option Value} {base : Heap} (T : Txt K mg) : ∃ fd, FnOk P w K mg base CX0 3 (He.ga K "_law_drawn") fd ["_law_source", "_law_lowers", "_law_uppers"] sp__law_drawn ∧ Binds K fd ["_law_source", "_law_lowers", "_law_uppers"] [] ∧ FunD K d__law_drawn.name d__law_drawn.qual d__law_drawn.params d__law_drawn.body d__law_drawn.scope (d__law_drawn.dvs K) (d__law_drawn.kws K) (He.fAd K d__law_drawn.at_) fd := by
  obtain ⟨fd__law_one, G__law_one, b__law_one, F__law_one⟩ := ok__law_one (P := P) (w := w) (base := base) T
  obtain ⟨fd__law_great, G__law_great, b__law_great, F__law_great⟩ := ok__law_great (P := P) (w := w) (base := base) T
  obtain ⟨fd__law_next, G__law_next, b__law_next, F__law_next⟩ := ok__law_next (P := P) (w := w) (base := base) T
  obtain ⟨fd, F⟩ := T.f__law_drawn
  refine ⟨fd, ?_, F.bindsN fun _ _ _ _ _ _ us hl => match us, hl with | [_, _, _], _ => rfl, F⟩
  refine F.ok (k := 2) sc__law_drawn (fun vs H Q E h => ?_) (fun cdv A outer s H vs Q E hr h => ?_)
  · obtain ⟨a, x, y, n, lo, hi, la, lb, rfl, _⟩ := h
    rfl
  · obtain ⟨a, x, y, n, lo, hi, la, lb, rfl, hs, hn, e, e', h0, h1, h2, h3, h4, h5, k⟩ := h
    refine ⟨_, PSs.nox (pss_cons (ps_set (i := 3) sc__law_drawn.nd rfl (Or.inl rfl) (pe_ix ix_list (pe_lst (pa_cons (pe_tup (pa_cons (pv 1) (pa_cons pe_str pa_nil))) (pa_cons (pe_tup (pa_cons (pv 2) (pa_cons pe_str pa_nil))) pa_nil))) (pe_call G__law_next (hr.mono (by decide)) rfl T.g__law_next T.k__law_next b__law_next .nil pass0 (pa_cons (pv 0) (pa_cons pe_int pa_nil))) (fun _ _ => rfl)))
      (pss_cons (ps_asg (pe_ix ix_tup (pv 3) pe_int (fun _ _ => rfl)) (pg_tup rfl (pgs_cons (pg_name (i := 4) sc__law_drawn.nd rfl (Or.inl rfl)) (pgs_cons (pg_name (i := 5) sc__law_drawn.nd rfl (Or.inl rfl)) pgs_nil))))
      (pss_cons (ps_set (i := 6) sc__law_drawn.nd rfl (Or.inl rfl) (pe_op op_add (pe_op op_sub (pv 5) (pv 4)) pe_int))
      (pss_cons (ps_set (i := 7) sc__law_drawn.nd rfl (Or.inl rfl) (pe_call G__law_one (hr.mono (by decide)) rfl T.g__law_one T.k__law_one b__law_one .nil pass0 (pa_cons (pv 0) (pa_cons (pe_lst (pa_cons (pv 4) (pa_cons (pv 5) (pa_cons (pe_op op_add (pv 4) (pe_call G__law_great (hr.mono (by decide)) rfl T.g__law_great T.k__law_great b__law_great .nil pass0 (pa_cons (pv 0) (pa_cons (pv 6) pa_nil)))) (pa_cons (pe_op op_add (pv 4) (pe_call G__law_great (hr.mono (by decide)) rfl T.g__law_great T.k__law_great b__law_great .nil pass0 (pa_cons (pv 0) (pa_cons (pv 6) pa_nil)))) pa_nil))))) pa_nil))))
      (pss_one (ps_ret (pe_tup (pa_cons (pv 7) (pa_cons (pe_ix ix_tup (pv 3) pe_int (fun _ _ => rfl)) pa_nil))))))))), ?_⟩
    show (_ : TS) _ [some (.ref a), some (.ref x), some (.ref y), none, none, none, none, none] _
    try dsimp only [nk]
    walk_at "rd"
    intro p1 hp1
    walk_at "rd"
    intro p2 hp2
    walk_at "rd"
    intro p3 hp3
    walk_at "rd"
    refine y_next (by walk_at "src") (by omega) (by omega) (by omega) fun w Hw w0 w1 srcw buw => ?_
    have E3 : Hw p3 = some (.lst [.ref p1, .ref p2]) := buw _ _ (Src.neN (by walk_at "src") hp3) upd_same
    have bu0 := (((But.of (same_upd (o := .tup [.ref x, .str "out"]) hp1)).trans (But.of (same_upd (o := .tup [.ref y, .str "in"]) hp2))).trans (But.of (same_upd (o := .lst [.ref p1, .ref p2]) hp3))).trans buw
    have E1 : Hw p1 = some (.tup [.ref x, .str "out"]) := tup_but buw (by walk_at "src") (at_upd hp3 (at_upd hp2 upd_same))
    have E2 : Hw p2 = some (.tup [.ref y, .str "in"]) := tup_but buw (by walk_at "src") (at_upd hp3 upd_same)
    have Ex : Hw x = some (.tup [.int lo, .int hi]) := by walk_at "at"
    have Ey : Hw y = some (.tup [.int la, .int lb]) := by walk_at "at"
    obtain ⟨P, i, X, u, v, hP, EP, EX, u0, uv, v1, kk⟩ : ∃ (P : Addr) (i : Bool) (X : Addr) (u v : Int), atI [V.ref p1, V.ref p2] w = some (.ref P) ∧ Hw P = some (.tup [.ref X, .str (sdS i)]) ∧ Hw X = some (.tup [.int u, .int v]) ∧ 0 ≤ u ∧ u ≤ v ∧ v < 2 ^ 600 ∧
        ∀ c, u ≤ c → c ≤ v → (i = false → lo ≤ c ∧ c ≤ hi) ∧ (i = true → la ≤ c ∧ c ≤ lb) := by
      rcases (by omega : w = 0 ∨ w = 1) with rfl | rfl
      · exact ⟨p1, false, x, lo, hi, rfl, E1, Ex, h0, h1, h2, fun c c0 c1 => ⟨fun _ => ⟨c0, c1⟩, fun h => by cases h⟩⟩
      · exact ⟨p2, true, y, la, lb, rfl, E2, Ey, h3, h4, h5, fun c c0 c1 => ⟨(fun h => by cases h), fun _ => ⟨c0, c1⟩⟩⟩
    refine x_ixL (sql E3) hP ?_
    walk_at "rd"
    refine y_great (by walk_at "src") (by omega) (by omega) (by omega) fun g Hg g0 g1 srcg bug => ?_
    have bdg : Bd 610 g := Bd.of g0 (by omega)
    walk_at "rd"
    refine y_great (by walk_at "src") (by omega) (by omega) (by omega) fun g' Hg' g'0 g'1 srcg' bug' => ?_
    have bdg' : Bd 610 g' := Bd.of g'0 (by omega)
    walk_at "rd"
    intro pz hpz
    walk_at "rd"
    refine y_one (by walk_at "src") (by omega) (by walk_at "at") (Src.neN (by walk_at "src") hpz) (by walk_at "len") (by walk_at "len") fun v_z Hz hv_z srcz buz => ?_
    obtain ⟨z, rfl, z0, z1⟩ : ∃ z : Int, v_z = V.int z ∧ u ≤ z ∧ z ≤ v := by
      simp only [List.mem_cons, List.not_mem_nil, or_false] at hv_z
      rcases hv_z with rfl | rfl | rfl | rfl <;> exact ⟨_, rfl, by omega, by omega⟩
    walk_at "rd"
    intro q hq
    obtain ⟨k1, k2⟩ := kk z z0 z1
    exact k q _ z i k1 k2 ((Src.upd hq srcz).mono (by omega)) (((((bu0.trans bug).trans bug').trans (But.of (same_upd hpz))).trans buz).trans (But.of (same_upd hq))) upd_same
theorem sc__law_face : FnScope ["_law_source", "_law_first", "_law_step", "_law_roll_here", "_law_turn", "_law_places", "_law_length", "_law_back", "_law_here", "_law_size", "_law_place"] ["_law_source", "_law_first", "_law_step", "_law_roll_here"] (defScope s__law_face) := ⟨rfl, rfl, rfl, by decide +kernel, rfl, by decide +kernel, by decide +kernel⟩
theorem ok__law_face {P : Program} {w : World} {K : PySem.W.Frag} {mg : Str → Option Value} {base : Heap} (T : Txt K mg) : ∃ fd, FnOk P w K mg base CX0 3 (He.ga K "_law_face") fd ["_law_source", "_law_first", "_law_step", "_law_roll_here"] sp__law_face ∧ Binds K fd ["_law_source", "_law_first", "_law_step", "_law_roll_here"] [] ∧ FunD K d__law_face.name d__law_face.qual d__law_face.params d__law_face.body d__law_face.scope (d__law_face.dvs K) (d__law_face.kws K) (He.fAd K d__law_face.at_) fd := by
  obtain ⟨fd__law_one, G__law_one, b__law_one, F__law_one⟩ := ok__law_one (P := P) (w := w) (base := base) T
  obtain ⟨fd__law_begins, G__law_begins, b__law_begins, F__law_begins⟩ := ok__law_begins (P := P) (w := w) (base := base) T
  obtain ⟨fd__law_great, G__law_great, b__law_great, F__law_great⟩ := ok__law_great (P := P) (w := w) (base := base) T
  obtain ⟨fd__law_next, G__law_next, b__law_next, F__law_next⟩ := ok__law_next (P := P) (w := w) (base := base) T
  obtain ⟨fd, F⟩ := T.f__law_face
  refine ⟨fd, ?_, F.bindsN fun _ _ _ _ _ _ us hl => match us, hl with | [_, _, _, _], _ => rfl, F⟩
  refine F.ok (k := 2) sc__law_face (fun vs H Q E h => ?_) (fun cdv A outer s H vs Q E hr h => ?_)
  · obtain ⟨a, r, n, f, s, t, l, rfl, _⟩ := h
    rfl
  · obtain ⟨a, r, n, f, s, t, l, rfl, hs, hn, f1, f2, s1, s2, t0, t1, l0, l1, e, k⟩ := h
    refine ⟨_, PSs.nox (pss_cons (ps_asg (pv 3) (pg_tup rfl (pgs_cons (pg_name (i := 4) sc__law_face.nd rfl (Or.inl rfl)) (pgs_cons (pg_name (i := 5) sc__law_face.nd rfl (Or.inl rfl)) (pgs_cons (pg_name (i := 6) sc__law_face.nd rfl (Or.inl rfl)) pgs_nil)))))
      (pss_cons (ps_set (i := 7) sc__law_face.nd rfl (Or.inl rfl) (pe_call G__law_one (hr.mono (by decide)) rfl T.g__law_one T.k__law_one b__law_one .nil pass0 (pa_cons (pv 0) (pa_cons (pe_lst (pa_cons pe_int (pa_cons pe_int (pa_cons pe_int (pa_cons pe_int (pa_cons (pe_call G__law_next (hr.mono (by decide)) rfl T.g__law_next T.k__law_next b__law_next .nil pass0 (pa_cons (pv 0) (pa_cons (pe_op op_add (pv 4) pe_int) pa_nil))) pa_nil)))))) pa_nil))))
      (pss_cons (ps_set (i := 8) sc__law_face.nd rfl (Or.inl rfl) (pe_callB (cl_max rfl) (by rfl) T.z_max (by decide +kernel) (pa_cons pe_int (pa_cons (pe_op op_sub (pv 4) (pv 7)) pa_nil))))
      (pss_cons (ps_set (i := 9) sc__law_face.nd rfl (Or.inl rfl) (pe_ix ix_list (pe_lst (pa_cons (pe_op op_add (pv 1) (pe_op op_mulW (pv 8) (pv 2))) (pa_cons (pv 5) pa_nil))) (pe_callTy cl_int (by rfl) T.z_int (by decide +kernel) (pa_cons (pe_cmpR op_eq (pv 8) (pv 4) (nomark _)) pa_nil)) (fun _ _ => rfl)))
      (pss_cons (ps_set (i := 10) sc__law_face.nd rfl (Or.inl rfl) (pe_call G__law_one (hr.mono (by decide)) rfl T.g__law_one T.k__law_one b__law_one .nil pass0 (pa_cons (pv 0) (pa_cons (pe_lst (pa_cons pe_int (pa_cons (pe_op op_sub (pv 9) pe_int) (pa_cons (pe_call G__law_great (hr.mono (by decide)) rfl T.g__law_great T.k__law_great b__law_great .nil pass0 (pa_cons (pv 0) (pa_cons (pv 9) pa_nil))) (pa_cons (pe_op op_fdivW (pv 9) pe_int) pa_nil))))) pa_nil))))
      (pss_one (ps_ret (pe_tup (pa_cons (pe_op op_add (pe_call G__law_begins (hr.mono (by decide)) rfl T.g__law_begins T.k__law_begins b__law_begins .nil pass0 (pa_cons (pv 1) (pa_cons (pv 2) (pa_cons (pv 8) pa_nil)))) (pv 10)) (pa_cons (pe_call G__law_one (hr.mono (by decide)) rfl T.g__law_one T.k__law_one b__law_one .nil pass0 (pa_cons (pv 0) (pa_cons (pe_lst (pa_cons pe_str (pa_cons pe_str pa_nil))) pa_nil))) pa_nil)))))))))), ?_⟩
    show (_ : TS) _ [some (.ref a), some (.int f), some (.int s), some (.ref r), none, none, none, none, none, none, none] _
    try dsimp only [nk]
    have bf : Bd 47 f := Bd.of (by omega) (by omega)
    have bs : Bd 47 s := Bd.of (by omega) (by omega)
    walk_at "rd"
    refine y_next (by walk_at "src") (by omega) (by omega) (by omega) fun x Hx x0 x1 srcx bux => ?_
    walk_at "rd"
    intro pb hpb
    walk_at "rd"
    refine y_one (by walk_at "src") (by omega) (by walk_at "at") (Src.neN (by walk_at "src") hpb) (by walk_at "len") (by walk_at "len") fun v_b Hb hv_b srcb bub => ?_
    obtain ⟨b, rfl, b0, b1⟩ : ∃ b : Int, v_b = V.int b ∧ 0 ≤ b ∧ b ≤ 10 ^ 8 := by
      simp only [List.mem_cons, List.not_mem_nil, or_false] at hv_b
      rcases hv_b with rfl | rfl | rfl | rfl | rfl <;> exact ⟨_, rfl, by omega, by omega⟩
    walk_at "rd"
    have w0 : 0 ≤ max 0 (t - b) := by omega
    have w1 : max 0 (t - b) ≤ t := by omega
    generalize max 0 (t - b) = w at *
    have bw : Bd 24 w := Bd.of w0 (by omega)
    have ws := mul_nn w0 s1
    have ts := mul_nn (show 0 ≤ t by omega) s1
    have bz : Bd 130 (f + w * s) := by walk_at "bdm"
    have bz1 := bz.lt
    have bt : Bd 24 t := Bd.of (by omega) (by omega)
    have bz2 : Bd 130 (f + t * s) := by walk_at "bdm"
    have bz3 := bz2.lt
    have bb0 := bg_ge f1 s1 w0
    have bbs := bg_succ f s w
    obtain ⟨z, hz, z1, z2, z3⟩ : ∃ z, atI [V.int (f + w * s), V.int l] (if decide (w = t) = true then 1 else 0) = some (V.int z) ∧ 1 ≤ z ∧ z < 2 ^ 131 ∧ Bg f s w + z ≤ Bg f s t + l := by
      by_cases h : w = t
      · rw [decide_eq_true h]
        exact ⟨l, rfl, l0, by omega, by rw [h]; omega⟩
      · rw [decide_eq_false h]
        have m := bg_mono f1 s1 (show 0 ≤ w + 1 by omega) (show w + 1 ≤ t by omega)
        exact ⟨f + w * s, rfl, by omega, by omega, by omega⟩
    walk_at "rd"
    intro ps hps
    walk_at "rd"
    refine x_ixL (sql upd_same) hz ?_
    walk_at "rd"
    refine y_great (by walk_at "src") (by omega) (by omega) (by omega) fun g Hg g0 g1 srcg bug => ?_
    have bdg : Bd 200 g := Bd.of g0 (by omega)
    walk_at "rd"
    intro py hpy
    walk_at "rd"
    refine y_one (by walk_at "src") (by omega) (by walk_at "at") (Src.neN (by walk_at "src") hpy) (by walk_at "len") (by walk_at "len") fun v_y Hy hv_y srcy buy => ?_
    obtain ⟨y, rfl, y0, y1⟩ : ∃ y : Int, v_y = V.int y ∧ 0 ≤ y ∧ y ≤ z - 1 := by
      simp only [List.mem_cons, List.not_mem_nil, or_false] at hv_y
      rcases hv_y with rfl | rfl | rfl | rfl <;> exact ⟨_, rfl, by omega, by omega⟩
    walk_at "rd"
    have by' : Bd 131 y := Bd.of y0 (by omega)
    intro pd hpd
    walk_at "rd"
    refine y_one (by walk_at "src") (by omega) (by walk_at "at") (Src.neN (by walk_at "src") hpd) (by walk_at "len") (by walk_at "len") fun v_d Hd hv_d srcd bud => ?_
    obtain ⟨i, rfl⟩ : ∃ i : Bool, v_d = V.str (sdS i) := by
      simp only [List.mem_cons, List.not_mem_nil, or_false] at hv_d
      rcases hv_d with rfl | rfl
      · exact ⟨true, rfl⟩
      · exact ⟨false, rfl⟩
    walk_at "rd"
    intro q hq
    exact k q _ (Bg f s w + y) i (by omega) (by omega) ((Src.upd hq srcd).mono (by omega)) ((((((((bux.trans (But.of (same_upd hpb))).trans bub).trans (But.of (same_upd hps))).trans bug).trans (But.of (same_upd hpy))).trans buy).trans (But.of (same_upd hpd))).trans bud |>.trans (But.of (same_upd hq))) upd_same
theorem sc__law_roll : FnScope ["_law_source", "_law_first", "_law_step", "_law_turn", "_law_size", "_law_wide", "_law_some", "_law_places"] ["_law_source", "_law_first", "_law_step"] (defScope s__law_roll) := ⟨rfl, rfl, rfl, by decide +kernel, rfl, by decide +kernel, by decide +kernel⟩
theorem ok__law_roll {P : Program} {w : World} {K : PySem.W.Frag} {mg : Str → Option Value} {base : Heap} (T : Txt K mg) : ∃ fd, FnOk P w K mg base CX0 3 (He.ga K "_law_roll") fd ["_law_source", "_law_first", "_law_step"] sp__law_roll ∧ Binds K fd ["_law_source", "_law_first", "_law_step"] [] ∧ FunD K d__law_roll.name d__law_roll.qual d__law_roll.params d__law_roll.body d__law_roll.scope (d__law_roll.dvs K) (d__law_roll.kws K) (He.fAd K d__law_roll.at_) fd := by
  obtain ⟨fd__law_begins, G__law_begins, b__law_begins, F__law_begins⟩ := ok__law_begins (P := P) (w := w) (base := base) T
  obtain ⟨fd__law_one, G__law_one, b__law_one, F__law_one⟩ := ok__law_one (P := P) (w := w) (base := base) T
  obtain ⟨fd__law_great, G__law_great, b__law_great, F__law_great⟩ := ok__law_great (P := P) (w := w) (base := base) T
  obtain ⟨fd__law_common, G__law_common, b__law_common, F__law_common⟩ := ok__law_common (P := P) (w := w) (base := base) T
  obtain ⟨fd__law_next, G__law_next, b__law_next, F__law_next⟩ := ok__law_next (P := P) (w := w) (base := base) T
  obtain ⟨fd, F⟩ := T.f__law_roll
  refine ⟨fd, ?_, F.bindsN fun _ _ _ _ _ _ us hl => match us, hl with | [_, _, _], _ => rfl, F⟩
  refine F.ok (k := 2) sc__law_roll (fun vs H Q E h => ?_) (fun cdv A outer s H vs Q E hr h => ?_)
  · obtain ⟨a, n, f, s, rfl, _⟩ := h
    rfl
  · obtain ⟨a, n, f, s, rfl, hs, hn, f1, f2, s1, s2, k⟩ := h
    refine ⟨_, PSs.nox (pss_cons (ps_set (i := 3) sc__law_roll.nd rfl (Or.inl rfl) (pe_op op_add pe_int (pe_call G__law_next (hr.mono (by decide)) rfl T.g__law_next T.k__law_next b__law_next .nil pass0 (pa_cons (pv 0) (pa_cons (pe_call G__law_one (hr.mono (by decide)) rfl T.g__law_one T.k__law_one b__law_one .nil pass0 (pa_cons (pv 0) (pa_cons (pe_lst (pa_cons pe_int (pa_cons pe_int (pa_cons pe_int (pa_cons (pe_pw (r := 10000000) ⟨by decide, by decide, by decide⟩ (by decide +kernel)) pa_nil))))) pa_nil))) pa_nil)))))
      (pss_cons (ps_set (i := 4) sc__law_roll.nd rfl (Or.inl rfl) (pe_op op_add (pv 1) (pe_op op_mulW (pv 3) (pv 2))))
      (pss_cons (ps_set (i := 5) sc__law_roll.nd rfl (Or.inl rfl) (pe_op op_fdivW (pv 4) (pe_call G__law_common (hr.mono (by decide)) rfl T.g__law_common T.k__law_common b__law_common .nil pass0 (pa_cons (pv 1) (pa_cons (pv 2) pa_nil)))))
      (pss_cons (ps_set (i := 6) sc__law_roll.nd rfl (Or.inl rfl) (pe_lst (pa_cons pe_int (pa_cons (pv 4) (pa_cons (pe_op op_add pe_int (pe_call G__law_great (hr.mono (by decide)) rfl T.g__law_great T.k__law_great b__law_great .nil pass0 (pa_cons (pv 0) (pa_cons (pv 4) pa_nil)))) (pa_cons (pe_op op_add pe_int (pe_call G__law_great (hr.mono (by decide)) rfl T.g__law_great T.k__law_great b__law_great .nil pass0 (pa_cons (pv 0) (pa_cons (pv 5) pa_nil)))) (pa_cons (pv 5) (pa_cons (pe_callB (cl_min rfl) (by rfl) T.z_min (by decide +kernel) (pa_cons (pv 4) (pa_cons (pe_op op_add (pv 5) pe_int) pa_nil))) pa_nil))))))))
      (pss_cons (ps_set (i := 7) sc__law_roll.nd rfl (Or.inl rfl) (pe_call G__law_one (hr.mono (by decide)) rfl T.g__law_one T.k__law_one b__law_one .nil pass0 (pa_cons (pv 0) (pa_cons (pv 6) pa_nil))))
      (pss_one (ps_ret (pe_tup (pa_cons (pv 3) (pa_cons (pv 7) (pa_cons (pe_op op_add (pe_call G__law_begins (hr.mono (by decide)) rfl T.g__law_begins T.k__law_begins b__law_begins .nil pass0 (pa_cons (pv 1) (pa_cons (pv 2) (pa_cons (pv 3) pa_nil)))) (pv 7)) pa_nil))))))))))), ?_⟩
    show (_ : TS) _ [some (.ref a), some (.int f), some (.int s), none, none, none, none, none] _
    try dsimp only [nk]
    have bf : Bd 47 f := Bd.of (by omega) (by omega)
    have bs : Bd 47 s := Bd.of (by omega) (by omega)
    walk_at "rd"
    intro p1 hp1
    walk_at "rd"
    refine y_one (by walk_at "src") (by omega) (by walk_at "at") (Src.neN (by walk_at "src") hp1) (by walk_at "len") (by walk_at "len") fun v H1 hv src1 bu1 => ?_
    obtain ⟨w, rfl, w0, w1⟩ : ∃ w : Int, v = V.int w ∧ 4 ≤ w ∧ w ≤ 10000000 := by
      simp only [List.mem_cons, List.not_mem_nil, or_false] at hv
      rcases hv with rfl | rfl | rfl | rfl <;> exact ⟨_, rfl, by omega, by omega⟩
    walk_at "rd"
    refine y_next (by walk_at "src") (by omega) (by omega) (by omega) fun r H2 r0 r1 src2 bu2 => ?_
    walk_at "rd"
    have t0 : 1 ≤ 1 + r := by omega
    have t1 : 1 + r ≤ 10 ^ 7 := by omega
    generalize 1 + r = t at *
    have bt : Bd 24 t := Bd.of (by omega) (by omega)
    have ts := mul_nn (show 0 ≤ t by omega) s1
    have bz : Bd 130 (f + t * s) := by walk_at "bdm"
    have bz1 := bz.lt
    have gg := gcdI_pos (s := s) f1
    have gl := gcdI_le (s := s) f1
    have bg : Bd 50 (gcdI f s) := Bd.of (by omega) (by omega)
    obtain ⟨w1, w2⟩ := dvd_part gg (show 1 ≤ f + t * s by omega) (gcdI_dz f s t)
    have wl : (f + t * s) / gcdI f s ≤ f + t * s := Int.ediv_le_self _ (by omega)
    walk_at "rd"
    refine y_common (by omega) s1 ?_
    walk_at "rd"
    refine y_great (by walk_at "src") (by omega) (by omega) (by omega) fun g1 H3 g10 g11 src3 bu3 => ?_
    walk_at "rd"
    refine y_great (by walk_at "src") (by omega) (by omega) (by omega) fun g2 H4 g20 g21 src4 bu4 => ?_
    walk_at "rd"
    intro p2 hp2
    walk_at "rd"
    refine y_one (by walk_at "src") (by omega) (by walk_at "at") (Src.neN (by walk_at "src") hp2) (by walk_at "len") (by walk_at "len") fun v H5 hv src5 bu5 => ?_
    obtain ⟨l, rfl, l0, l1⟩ : ∃ l : Int, v = V.int l ∧ 1 ≤ l ∧ l ≤ f + t * s := by
      simp only [List.mem_cons, List.not_mem_nil, or_false] at hv
      rcases hv with rfl | rfl | rfl | rfl | rfl | rfl <;> exact ⟨_, rfl, by omega, by omega⟩
    walk_at "rd"
    intro p3 hp3
    exact k p3 _ t l t0 t1 l0 l1 ((Src.upd hp3 src5).mono (by omega)) (((((((But.of (same_upd hp1)).trans bu1).trans bu2).trans bu3).trans bu4).trans ((But.of (same_upd hp2)).trans bu5)).trans (But.of (same_upd hp3))) upd_same
theorem sc__law_drum : FnScope ["_law_source", "_law_kind", "_law_unit"] ["_law_source"] (defScope s__law_drum) := ⟨rfl, rfl, rfl, by decide +kernel, rfl, by decide +kernel, by decide +kernel⟩
theorem ok__law_drum {P : Program} {w : World} {K : PySem.W.Frag} {mg : Str → Option Value} {base : Heap} (T : Txt K mg) : ∃ fd, FnOk P w K mg base CX0 3 (He.ga K "_law_drum") fd ["_law_source"] sp__law_drum ∧ Binds K fd ["_law_source"] [] ∧ FunD K d__law_drum.name d__law_drum.qual d__law_drum.params d__law_drum.body d__law_drum.scope (d__law_drum.dvs K) (d__law_drum.kws K) (He.fAd K d__law_drum.at_) fd := by
  obtain ⟨fd__law_great, G__law_great, b__law_great, F__law_great⟩ := ok__law_great (P := P) (w := w) (base := base) T
  obtain ⟨fd__law_next, G__law_next, b__law_next, F__law_next⟩ := ok__law_next (P := P) (w := w) (base := base) T
  obtain ⟨fd, F⟩ := T.f__law_drum
  refine ⟨fd, ?_, F.bindsN fun _ _ _ _ _ _ us hl => match us, hl with | [_], _ => rfl, F⟩
  refine F.ok (k := 2) sc__law_drum (fun vs H Q E h => ?_) (fun cdv A outer s H vs Q E hr h => ?_)
  · obtain ⟨a, n, rfl, _⟩ := h
    rfl
  · obtain ⟨a, n, rfl, hs, hn, k⟩ := h
    refine ⟨_, PSs.nox (pss_cons (ps_set (i := 1) sc__law_drum.nd rfl (Or.inl rfl) (pe_call G__law_next (hr.mono (by decide)) rfl T.g__law_next T.k__law_next b__law_next .nil pass0 (pa_cons (pv 0) (pa_cons pe_int pa_nil))))
      (pss_cons (ps_if (pt_cmpR op_eq (pv 1) pe_int (nomark _)) (pss_one (ps_ret (pe_tup (pa_cons (pe_op op_add pe_int (pe_call G__law_next (hr.mono (by decide)) rfl T.g__law_next T.k__law_next b__law_next .nil pass0 (pa_cons (pv 0) (pa_cons pe_int pa_nil)))) (pa_cons (pe_call G__law_next (hr.mono (by decide)) rfl T.g__law_next T.k__law_next b__law_next .nil pass0 (pa_cons (pv 0) (pa_cons pe_int pa_nil))) pa_nil))))) pss_nil)
      (pss_cons (ps_if (pt_cmpR op_eq (pv 1) pe_int (nomark _)) (pss_one (ps_ret (pe_tup (pa_cons (pe_op op_add pe_int (pe_call G__law_next (hr.mono (by decide)) rfl T.g__law_next T.k__law_next b__law_next .nil pass0 (pa_cons (pv 0) (pa_cons pe_int pa_nil)))) (pa_cons (pe_call G__law_next (hr.mono (by decide)) rfl T.g__law_next T.k__law_next b__law_next .nil pass0 (pa_cons (pv 0) (pa_cons pe_int pa_nil))) pa_nil))))) pss_nil)
      (pss_cons (ps_if (pt_cmpR op_eq (pv 1) pe_int (nomark _)) (pss_one (ps_ret (pe_tup (pa_cons (pe_op op_add pe_int (pe_call G__law_next (hr.mono (by decide)) rfl T.g__law_next T.k__law_next b__law_next .nil pass0 (pa_cons (pv 0) (pa_cons pe_int pa_nil)))) (pa_cons pe_int pa_nil))))) pss_nil)
      (pss_cons (ps_if (pt_cmpR op_eq (pv 1) pe_int (nomark _)) (pss_cons (ps_set (i := 2) sc__law_drum.nd rfl (Or.inl rfl) (pe_op op_add pe_int (pe_call G__law_next (hr.mono (by decide)) rfl T.g__law_next T.k__law_next b__law_next .nil pass0 (pa_cons (pv 0) (pa_cons (pe_pw (r := 1000000) ⟨by decide, by decide, by decide⟩ (by decide +kernel)) pa_nil)))))
      (pss_one (ps_ret (pe_tup (pa_cons (pe_op op_mulW (pv 2) (pe_op op_add pe_int (pe_call G__law_next (hr.mono (by decide)) rfl T.g__law_next T.k__law_next b__law_next .nil pass0 (pa_cons (pv 0) (pa_cons pe_int pa_nil))))) (pa_cons (pe_op op_mulW (pv 2) (pe_call G__law_next (hr.mono (by decide)) rfl T.g__law_next T.k__law_next b__law_next .nil pass0 (pa_cons (pv 0) (pa_cons pe_int pa_nil)))) pa_nil)))))) pss_nil)
      (pss_cons (ps_if (pt_cmpR op_eq (pv 1) pe_int (nomark _)) (pss_one (ps_ret (pe_tup (pa_cons (pe_op op_add pe_int (pe_call G__law_great (hr.mono (by decide)) rfl T.g__law_great T.k__law_great b__law_great .nil pass0 (pa_cons (pv 0) (pa_cons (pe_pw (r := 100000000000000) ⟨by decide, by decide, by decide⟩ (by decide +kernel)) pa_nil)))) (pa_cons (pe_call G__law_next (hr.mono (by decide)) rfl T.g__law_next T.k__law_next b__law_next .nil pass0 (pa_cons (pv 0) (pa_cons pe_int pa_nil))) pa_nil))))) pss_nil)
      (pss_one (ps_ret (pe_tup (pa_cons (pe_op op_add pe_int (pe_call G__law_next (hr.mono (by decide)) rfl T.g__law_next T.k__law_next b__law_next .nil pass0 (pa_cons (pv 0) (pa_cons pe_int pa_nil)))) (pa_cons (pe_call G__law_great (hr.mono (by decide)) rfl T.g__law_great T.k__law_great b__law_great .nil pass0 (pa_cons (pv 0) (pa_cons (pe_pw (r := 100000000000000) ⟨by decide, by decide, by decide⟩ (by decide +kernel)) pa_nil))) pa_nil))))))))))), ?_⟩
    show (_ : TS) _ [some (.ref a), none, none] _
    try dsimp only [nk]
    walk_at "rd"
    refine y_next (by walk_at "src") (by omega) (by omega) (by omega) fun kd Hk kd0 kd1 srck buk => ?_
    walk_at "rd"
    refine x_ite (fun g => ?_) (fun g => ?_)
    · walk_at "rd"
      refine y_next (by walk_at "src") (by omega) (by omega) (by omega) fun x Hx x0 x1 srcx bux => ?_
      have bdx : Bd 200 x := Bd.of x0 (by omega)
      walk_at "rd"
      refine y_next (by walk_at "src") (by omega) (by omega) (by omega) fun y Hy y0 y1 srcy buy => ?_
      have bdy : Bd 200 y := Bd.of y0 (by omega)
      walk_at "rd"
      intro p hp
      exact k p _ (1 + x) y (by omega) (by omega) (by omega) (by omega) ((Src.upd hp srcy).mono (by omega)) (((buk.trans bux).trans buy).trans (But.of (same_upd hp))) upd_same
    walk_at "rd"
    refine x_ite (fun g => ?_) (fun g => ?_)
    · walk_at "rd"
      refine y_next (by walk_at "src") (by omega) (by omega) (by omega) fun x Hx x0 x1 srcx bux => ?_
      have bdx : Bd 200 x := Bd.of x0 (by omega)
      walk_at "rd"
      refine y_next (by walk_at "src") (by omega) (by omega) (by omega) fun y Hy y0 y1 srcy buy => ?_
      have bdy : Bd 200 y := Bd.of y0 (by omega)
      walk_at "rd"
      intro p hp
      exact k p _ (1 + x) y (by omega) (by omega) (by omega) (by omega) ((Src.upd hp srcy).mono (by omega)) (((buk.trans bux).trans buy).trans (But.of (same_upd hp))) upd_same
    walk_at "rd"
    refine x_ite (fun g => ?_) (fun g => ?_)
    · walk_at "rd"
      refine y_next (by walk_at "src") (by omega) (by omega) (by omega) fun x Hx x0 x1 srcx bux => ?_
      have bdx : Bd 200 x := Bd.of x0 (by omega)
      walk_at "rd"
      intro p hp
      exact k p _ (1 + x) 0 (by omega) (by omega) (by omega) (by omega) ((Src.upd hp srcx).mono (by omega)) ((buk.trans bux).trans (But.of (same_upd hp))) upd_same
    walk_at "rd"
    refine x_ite (fun g => ?_) (fun g => ?_)
    · walk_at "rd"
      refine y_next (by walk_at "src") (by omega) (by omega) (by omega) fun x Hx x0 x1 srcx bux => ?_
      have bdx : Bd 200 x := Bd.of x0 (by omega)
      walk_at "rd"
      refine y_next (by walk_at "src") (by omega) (by omega) (by omega) fun y Hy y0 y1 srcy buy => ?_
      have bdy : Bd 200 y := Bd.of y0 (by omega)
      walk_at "rd"
      refine y_next (by walk_at "src") (by omega) (by omega) (by omega) fun z Hz z0 z1 srcz buz => ?_
      have bdz : Bd 200 z := Bd.of z0 (by omega)
      walk_at "rd"
      intro p hp
      have m1 := mul_bd (a := 1 + x) (b := 1 + y) (A := 1000000) (B := 9) (by omega) (by omega) (by omega) (by omega)
      have m2 := mul_bd (a := 1 + x) (b := z) (A := 1000000) (B := 9) (by omega) (by omega) (by omega) (by omega)
      have m3 := mul_ge1 (a := 1 + x) (b := 1 + y) (by omega) (by omega)
      exact k p _ ((1 + x) * (1 + y)) ((1 + x) * z) (by omega) (by omega) (by omega) (by omega) ((Src.upd hp srcz).mono (by omega)) ((((buk.trans bux).trans buy).trans buz).trans (But.of (same_upd hp))) upd_same
    walk_at "rd"
    refine x_ite (fun g => ?_) (fun g => ?_)
    · walk_at "rd"
      refine y_great (by walk_at "src") (by omega) (by omega) (by omega) fun x Hx x0 x1 srcx bux => ?_
      have bdx : Bd 200 x := Bd.of x0 (by omega)
      walk_at "rd"
      refine y_next (by walk_at "src") (by omega) (by omega) (by omega) fun y Hy y0 y1 srcy buy => ?_
      have bdy : Bd 200 y := Bd.of y0 (by omega)
      walk_at "rd"
      intro p hp
      exact k p _ (1 + x) y (by omega) (by omega) (by omega) (by omega) ((Src.upd hp srcy).mono (by omega)) (((buk.trans bux).trans buy).trans (But.of (same_upd hp))) upd_same
    · walk_at "rd"
      refine y_next (by walk_at "src") (by omega) (by omega) (by omega) fun x Hx x0 x1 srcx bux => ?_
      have bdx : Bd 200 x := Bd.of x0 (by omega)
      walk_at "rd"
      refine y_great (by walk_at "src") (by omega) (by omega) (by omega) fun y Hy y0 y1 srcy buy => ?_
      have bdy : Bd 200 y := Bd.of y0 (by omega)
      walk_at "rd"
      intro p hp
      exact k p _ (1 + x) y (by omega) (by omega) (by omega) (by omega) ((Src.upd hp srcy).mono (by omega)) (((buk.trans bux).trans buy).trans (But.of (same_upd hp))) upd_same
theorem sc_Drum_size : FnScope ["self", "turn"] ["self", "turn"] (defScope s_Drum_size) := ⟨rfl, rfl, rfl, by decide +kernel, rfl, by decide +kernel, by decide +kernel⟩
theorem ok_Drum_size {P : Program} {w : World} {K : PySem.W.Frag} {mg : Str → Option Value} {base : Heap} (T : Txt K mg) : ∃ fd, FnOk P w K mg base CX0 4 (He.ma K (He.ga K "Drum") "size") fd ["self", "turn"] (sp_Drum_size K) ∧ Binds K fd ["self", "turn"] [] ∧ FunD K d_Drum_size.name d_Drum_size.qual d_Drum_size.params d_Drum_size.body d_Drum_size.scope (d_Drum_size.dvs K) (d_Drum_size.kws K) (He.fAd K d_Drum_size.at_) fd := by
  obtain ⟨fd_check_turn, G_check_turn, b_check_turn, F_check_turn⟩ := ok_check_turn (P := P) (w := w) (base := base) T
  obtain ⟨fd, F⟩ := T.f_Drum_size
  refine ⟨fd, ?_, F.bindsN fun _ _ _ _ _ _ us hl => match us, hl with | [_, _], _ => rfl, F⟩
  refine F.ok (k := 3) sc_Drum_size (fun vs H Q E h => ?_) (fun cdv A outer s H vs Q E hr h => ?_)
  · obtain ⟨p, f, s, t, rfl, _⟩ := h
    rfl
  · obtain ⟨p, f, s, t, rfl, d, h0, h1, k⟩ := h
    refine ⟨_, PSs.nox (pss_cons (ps_expr (pe_call G_check_turn (hr.mono (by decide)) rfl T.g_check_turn T.k_check_turn b_check_turn .nil pass0 (pa_cons (pv 1) pa_nil)))
      (pss_one (ps_ret (pe_op op_add (pe_fld (pv 0) rfl) (pe_op op_mulW (pv 1) (pe_fld (pv 0) rfl)))))), ?_⟩
    show (_ : TS) _ [some (.ref p), some (.int t)] _
    try dsimp only [nk]
    have bt : Bd 1000 t := Bd.of h0 h1
    walk_at "rd"
    exact k
theorem sc_Drum_begins : FnScope ["self", "turn"] ["self", "turn"] (defScope s_Drum_begins) := ⟨rfl, rfl, rfl, by decide +kernel, rfl, by decide +kernel, by decide +kernel⟩
theorem ok_Drum_begins {P : Program} {w : World} {K : PySem.W.Frag} {mg : Str → Option Value} {base : Heap} (T : Txt K mg) : ∃ fd, FnOk P w K mg base CX0 4 (He.ma K (He.ga K "Drum") "begins") fd ["self", "turn"] (sp_Drum_begins K) ∧ Binds K fd ["self", "turn"] [] ∧ FunD K d_Drum_begins.name d_Drum_begins.qual d_Drum_begins.params d_Drum_begins.body d_Drum_begins.scope (d_Drum_begins.dvs K) (d_Drum_begins.kws K) (He.fAd K d_Drum_begins.at_) fd := by
  obtain ⟨fd_check_turn, G_check_turn, b_check_turn, F_check_turn⟩ := ok_check_turn (P := P) (w := w) (base := base) T
  obtain ⟨fd, F⟩ := T.f_Drum_begins
  refine ⟨fd, ?_, F.bindsN fun _ _ _ _ _ _ us hl => match us, hl with | [_, _], _ => rfl, F⟩
  refine F.ok (k := 3) sc_Drum_begins (fun vs H Q E h => ?_) (fun cdv A outer s H vs Q E hr h => ?_)
  · obtain ⟨p, f, s, t, rfl, _⟩ := h
    rfl
  · obtain ⟨p, f, s, t, rfl, d, h0, h1, k⟩ := h
    refine ⟨_, PSs.nox (pss_cons (ps_expr (pe_call G_check_turn (hr.mono (by decide)) rfl T.g_check_turn T.k_check_turn b_check_turn .nil pass0 (pa_cons (pv 1) pa_nil)))
      (pss_one (ps_ret (pe_op op_add (pe_op op_mulW (pv 1) (pe_fld (pv 0) rfl)) (pe_op op_mulW (pe_fld (pv 0) rfl) (pe_op op_fdivW (pe_op op_mulW (pv 1) (pe_op op_sub (pv 1) pe_int)) pe_int)))))), ?_⟩
    show (_ : TS) _ [some (.ref p), some (.int t)] _
    try dsimp only [nk]
    have bt : Bd 1000 t := Bd.of h0 h1
    walk_at "rd"
    exact k
theorem sc_check_below : FnScope ["many", "number"] ["many", "number"] (defScope s_check_below) := ⟨rfl, rfl, rfl, by decide +kernel, rfl, by decide +kernel, by decide +kernel⟩
theorem ok_check_below {P : Program} {w : World} {K : PySem.W.Frag} {mg : Str → Option Value} {base : Heap} (T : Txt K mg) : ∃ fd, FnOk P w K mg base CX0 4 (He.ga K "check_below") fd ["many", "number"] sp_check_below ∧ Binds K fd ["many", "number"] [] ∧ FunD K d_check_below.name d_check_below.qual d_check_below.params d_check_below.body d_check_below.scope (d_check_below.dvs K) (d_check_below.kws K) (He.fAd K d_check_below.at_) fd := by
  obtain ⟨fd_is_below, G_is_below, b_is_below, F_is_below⟩ := ok_is_below (P := P) (w := w) (base := base) T
  obtain ⟨fd, F⟩ := T.f_check_below
  refine ⟨fd, ?_, F.bindsN fun _ _ _ _ _ _ us hl => match us, hl with | [_, _], _ => rfl, F⟩
  refine F.ok (k := 3) sc_check_below (fun vs H Q E h => ?_) (fun cdv A outer s H vs Q E hr h => ?_)
  · obtain ⟨m, n, rfl, _⟩ := h
    rfl
  · obtain ⟨m, n, rfl, h0, h1, k⟩ := h
    refine ⟨_, PSs.nox (pss_one (ps_if (pt_not (pt_val (pe_call G_is_below (hr.mono (by decide)) rfl T.g_is_below T.k_is_below b_is_below .nil pass0 (pa_cons (pv 0) (pa_cons (pv 1) pa_nil))))) (pss_one ps_never) pss_nil)), ?_⟩
    show (_ : TS) _ [some (.int m), some (.int n)] _
    try dsimp only [nk]
    walk_at "rd"
    exact k
theorem sc_is_face : FnScope ["length", "thing", "cell", "side"] ["length", "thing"] (defScope s_is_face) := ⟨rfl, rfl, rfl, by decide +kernel, rfl, by decide +kernel, by decide +kernel⟩
theorem ok_is_face {P : Program} {w : World} {K : PySem.W.Frag} {mg : Str → Option Value} {base : Heap} (T : Txt K mg) : ∃ fd, FnOk P w K mg base CX0 4 (He.ga K "is_face") fd ["length", "thing"] sp_is_face ∧ Binds K fd ["length", "thing"] [] ∧ FunD K d_is_face.name d_is_face.qual d_is_face.params d_is_face.body d_is_face.scope (d_is_face.dvs K) (d_is_face.kws K) (He.fAd K d_is_face.at_) fd := by
  obtain ⟨fd_is_word, G_is_word, b_is_word, F_is_word⟩ := ok_is_word (P := P) (w := w) (base := base) T
  obtain ⟨fd_is_below, G_is_below, b_is_below, F_is_below⟩ := ok_is_below (P := P) (w := w) (base := base) T
  obtain ⟨fd_is_tuple_of, G_is_tuple_of, b_is_tuple_of, F_is_tuple_of⟩ := ok_is_tuple_of (P := P) (w := w) (base := base) T
  obtain ⟨fd, F⟩ := T.f_is_face
  refine ⟨fd, ?_, F.bindsN fun _ _ _ _ _ _ us hl => match us, hl with | [_, _], _ => rfl, F⟩
  refine F.ok (k := 3) sc_is_face (fun vs H Q E h => ?_) (fun cdv A outer s H vs Q E hr h => ?_)
  · obtain ⟨n, q, c, i, rfl, _⟩ := h
    rfl
  · obtain ⟨n, q, c, i, rfl, e, h0, h1, k⟩ := h
    refine ⟨_, PSs.nox (pss_cons (ps_if (pt_not (pt_val (pe_call G_is_tuple_of (hr.mono (by decide)) rfl T.g_is_tuple_of T.k_is_tuple_of b_is_tuple_of .nil pass0 (pa_cons pe_int (pa_cons (pv 1) pa_nil))))) (pss_one (ps_ret pe_bl)) pss_nil)
      (pss_cons (ps_asg (pv 1) (pg_tup rfl (pgs_cons (pg_name (i := 2) sc_is_face.nd rfl (Or.inl rfl)) (pgs_cons (pg_name (i := 3) sc_is_face.nd rfl (Or.inl rfl)) pgs_nil))))
      (pss_one (ps_ret (pe_and (pe_call G_is_below (hr.mono (by decide)) rfl T.g_is_below T.k_is_below b_is_below .nil pass0 (pa_cons (pv 0) (pa_cons (pv 2) pa_nil))) (pe_one (pe_call G_is_word (hr.mono (by decide)) rfl T.g_is_word T.k_is_word b_is_word .nil pass0 (pa_cons (pe_tup (pa_cons pe_str (pa_cons pe_str pa_nil))) (pa_cons (pv 3) pa_nil))))))))), ?_⟩
    show (_ : TS) _ [some (.int n), some (.ref q), none, none] _
    try dsimp only [nk]
    walk_at "rd"
    refine y_tuple_of e ?_
    walk_at "rd"
    refine x_iteNF (by rfl) ?_
    walk_at "rd"
    intro r hr
    walk_at "rd"
    refine y_is_word upd_same ?_
    walk_at "rd"
    exact k _ (same_upd hr)
theorem sc__met : FnScope ["drum", "place", "size", "turn", "begin", "many"] ["drum", "place", "size", "turn"] (defScope s__met) := ⟨rfl, rfl, rfl, by decide +kernel, rfl, by decide +kernel, by decide +kernel⟩
theorem ok__met {P : Program} {w : World} {K : PySem.W.Frag} {mg : Str → Option Value} {base : Heap} (T : Txt K mg) : ∃ fd, FnOk P w K mg base CX0 5 (He.ga K "_met") fd ["drum", "place", "size", "turn"] (sp__met K) ∧ Binds K fd ["drum", "place", "size", "turn"] [] ∧ FunD K d__met.name d__met.qual d__met.params d__met.body d__met.scope (d__met.dvs K) (d__met.kws K) (He.fAd K d__met.at_) fd := by
  obtain ⟨fd_Drum_size, G_Drum_size, b_Drum_size, F_Drum_size⟩ := ok_Drum_size (P := P) (w := w) (base := base) T
  obtain ⟨fd_Drum_begins, G_Drum_begins, b_Drum_begins, F_Drum_begins⟩ := ok_Drum_begins (P := P) (w := w) (base := base) T
  obtain ⟨fd, F⟩ := T.f__met
  refine ⟨fd, ?_, F.bindsN fun _ _ _ _ _ _ us hl => match us, hl with | [_, _, _, _], _ => rfl, F⟩
  refine F.ok (k := 4) sc__met (fun vs H Q E h => ?_) (fun cdv A outer s H vs Q E hr h => ?_)
  · obtain ⟨p, f, s, l, z, t, rfl, _⟩ := h
    rfl
  · obtain ⟨p, f, s, l, z, t, rfl, d, h0, h1, h2, h3, h4, k⟩ := h
    refine ⟨_, PSs.nox (pss_cons (ps_set (i := 4) sc__met.nd rfl (Or.inl rfl) (pe_meth (pv 0) T.cl_Drum T.m_Drum_begins G_Drum_begins (hr.mono (by decide)) b_Drum_begins .nil pass0 (pa_cons (pv 3) pa_nil)))
      (pss_cons (ps_set (i := 5) sc__met.nd rfl (Or.inl rfl) (pe_meth (pv 0) T.cl_Drum T.m_Drum_size G_Drum_size (hr.mono (by decide)) b_Drum_size .nil pass0 (pa_cons (pv 3) pa_nil)))
      (pss_one (ps_ret (pe_tup (pa_cons (pe_op op_add (pv 4) (pe_op op_fdivW (pe_op op_mulW (pv 1) (pv 5)) (pv 2))) (pa_cons (pe_op op_add (pv 4) (pe_op op_fdivW (pe_op op_sub (pe_op op_mulW (pe_op op_add (pv 1) pe_int) (pv 5)) pe_int) (pv 2))) pa_nil))))))), ?_⟩
    show (_ : TS) _ [some (.ref p), some (.int l), some (.int z), some (.int t), none, none] _
    try dsimp only [nk]
    have bl : Bd 1000 l := Bd.of h0 (by omega)
    have bz : Bd 1000 z := Bd.of (by omega) h2
    have bt : Bd 1000 t := Bd.of h3 h4
    walk_at "rd"
    intro q hq
    exact k q _ (same_upd hq) upd_same
theorem sc_Drum_where : FnScope ["self", "cell", "turn"] ["self", "cell"] (defScope s_Drum_where) := ⟨rfl, rfl, rfl, by decide +kernel, rfl, by decide +kernel, by decide +kernel⟩
theorem ok_Drum_where {P : Program} {w : World} {K : PySem.W.Frag} {mg : Str → Option Value} {base : Heap} (T : Txt K mg) : ∃ fd, FnOk P w K mg base CX0 5 (He.ma K (He.ga K "Drum") "where") fd ["self", "cell"] (sp_Drum_where K) ∧ Binds K fd ["self", "cell"] [] ∧ FunD K d_Drum_where.name d_Drum_where.qual d_Drum_where.params d_Drum_where.body d_Drum_where.scope (d_Drum_where.dvs K) (d_Drum_where.kws K) (He.fAd K d_Drum_where.at_) fd := by
  obtain ⟨fd_Drum_size, G_Drum_size, b_Drum_size, F_Drum_size⟩ := ok_Drum_size (P := P) (w := w) (base := base) T
  obtain ⟨fd_Drum_begins, G_Drum_begins, b_Drum_begins, F_Drum_begins⟩ := ok_Drum_begins (P := P) (w := w) (base := base) T
  obtain ⟨fd_Drumu_turn_of, G_Drumu_turn_of, b_Drumu_turn_of, F_Drumu_turn_of⟩ := ok_Drumu_turn_of (P := P) (w := w) (base := base) T
  obtain ⟨fd_check_cell, G_check_cell, b_check_cell, F_check_cell⟩ := ok_check_cell (P := P) (w := w) (base := base) T
  obtain ⟨fd, F⟩ := T.f_Drum_where
  refine ⟨fd, ?_, F.bindsN fun _ _ _ _ _ _ us hl => match us, hl with | [_, _], _ => rfl, F⟩
  refine F.ok (k := 4) sc_Drum_where (fun vs H Q E h => ?_) (fun cdv A outer s H vs Q E hr h => ?_)
  · obtain ⟨p, f, s, c, rfl, _⟩ := h
    rfl
  · obtain ⟨p, f, s, c, rfl, d, h0, h1, k⟩ := h
    refine ⟨_, PSs.nox (pss_cons (ps_expr (pe_call G_check_cell (hr.mono (by decide)) rfl T.g_check_cell T.k_check_cell b_check_cell .nil pass0 (pa_cons (pv 1) pa_nil)))
      (pss_cons (ps_set (i := 2) sc_Drum_where.nd rfl (Or.inl rfl) (pe_meth (pv 0) T.cl_Drum T.m_Drumu_turn_of G_Drumu_turn_of (hr.mono (by decide)) b_Drumu_turn_of .nil pass0 (pa_cons (pv 1) pa_nil)))
      (pss_one (ps_ret (pe_tup (pa_cons (pv 2) (pa_cons (pe_op op_sub (pv 1) (pe_meth (pv 0) T.cl_Drum T.m_Drum_begins G_Drum_begins (hr.mono (by decide)) b_Drum_begins .nil pass0 (pa_cons (pv 2) pa_nil))) (pa_cons (pe_meth (pv 0) T.cl_Drum T.m_Drum_size G_Drum_size (hr.mono (by decide)) b_Drum_size .nil pass0 (pa_cons (pv 2) pa_nil)) pa_nil)))))))), ?_⟩
    show (_ : TS) _ [some (.ref p), some (.int c), none] _
    try dsimp only [nk]
    have t0 := tOf_nn d.f1 d.s0 h0
    have t1 := tOf_lec d.f1 d.s0 h0
    walk_at "rd"
    intro q hq
    exact k q _ (same_upd hq) upd_same
theorem sc_check_face : FnScope ["length", "face"] ["length", "face"] (defScope s_check_face) := ⟨rfl, rfl, rfl, by decide +kernel, rfl, by decide +kernel, by decide +kernel⟩
theorem ok_check_face {P : Program} {w : World} {K : PySem.W.Frag} {mg : Str → Option Value} {base : Heap} (T : Txt K mg) : ∃ fd, FnOk P w K mg base CX0 5 (He.ga K "check_face") fd ["length", "face"] sp_check_face ∧ Binds K fd ["length", "face"] [] ∧ FunD K d_check_face.name d_check_face.qual d_check_face.params d_check_face.body d_check_face.scope (d_check_face.dvs K) (d_check_face.kws K) (He.fAd K d_check_face.at_) fd := by
  obtain ⟨fd_is_face, G_is_face, b_is_face, F_is_face⟩ := ok_is_face (P := P) (w := w) (base := base) T
  obtain ⟨fd, F⟩ := T.f_check_face
  refine ⟨fd, ?_, F.bindsN fun _ _ _ _ _ _ us hl => match us, hl with | [_, _], _ => rfl, F⟩
  refine F.ok (k := 4) sc_check_face (fun vs H Q E h => ?_) (fun cdv A outer s H vs Q E hr h => ?_)
  · obtain ⟨n, q, c, i, rfl, _⟩ := h
    rfl
  · obtain ⟨n, q, c, i, rfl, e, h0, h1, k⟩ := h
    refine ⟨_, PSs.nox (pss_one (ps_if (pt_not (pt_val (pe_call G_is_face (hr.mono (by decide)) rfl T.g_is_face T.k_is_face b_is_face .nil pass0 (pa_cons (pv 0) (pa_cons (pv 1) pa_nil))))) (pss_one ps_never) pss_nil)), ?_⟩
    show (_ : TS) _ [some (.int n), some (.ref q)] _
    try dsimp only [nk]
    walk_at "rd"
    refine y_is_face e h0 h1 fun H1 s1 => ?_
    walk_at "rd"
    exact k _ s1
theorem sc_above : FnScope ["drum", "length", "cell", "turn", "place", "size", "first", "last"] ["drum", "length", "cell"] (defScope s_above) := ⟨rfl, rfl, rfl, by decide +kernel, rfl, by decide +kernel, by decide +kernel⟩
theorem ok_above {P : Program} {w : World} {K : PySem.W.Frag} {mg : Str → Option Value} {base : Heap} (T : Txt K mg) : ∃ fd, FnOk P w K mg base CX0 6 (He.ga K "above") fd ["drum", "length", "cell"] (sp_above K) ∧ Binds K fd ["drum", "length", "cell"] [] ∧ FunD K d_above.name d_above.qual d_above.params d_above.body d_above.scope (d_above.dvs K) (d_above.kws K) (He.fAd K d_above.at_) fd := by
  obtain ⟨fd__met, G__met, b__met, F__met⟩ := ok__met (P := P) (w := w) (base := base) T
  obtain ⟨fd_Drum_where, G_Drum_where, b_Drum_where, F_Drum_where⟩ := ok_Drum_where (P := P) (w := w) (base := base) T
  obtain ⟨fd_check_below, G_check_below, b_check_below, F_check_below⟩ := ok_check_below (P := P) (w := w) (base := base) T
  obtain ⟨fd_check_length, G_check_length, b_check_length, F_check_length⟩ := ok_check_length (P := P) (w := w) (base := base) T
  obtain ⟨fd, F⟩ := T.f_above
  refine ⟨fd, ?_, F.bindsN fun _ _ _ _ _ _ us hl => match us, hl with | [_, _, _], _ => rfl, F⟩
  refine F.ok (k := 5) sc_above (fun vs H Q E h => ?_) (fun cdv A outer s H vs Q E hr h => ?_)
  · obtain ⟨p, f, s, n, c, rfl, _⟩ := h
    rfl
  · obtain ⟨p, f, s, n, c, rfl, d, n1, h0, h1, h2, k1, k2⟩ := h
    refine ⟨_, PSs.nox (pss_cons (ps_expr (pe_call G_check_length (hr.mono (by decide)) rfl T.g_check_length T.k_check_length b_check_length .nil pass0 (pa_cons (pv 1) pa_nil)))
      (pss_cons (ps_expr (pe_call G_check_below (hr.mono (by decide)) rfl T.g_check_below T.k_check_below b_check_below .nil pass0 (pa_cons (pv 1) (pa_cons (pv 2) pa_nil))))
      (pss_cons (ps_asg (pe_meth (pv 0) T.cl_Drum T.m_Drum_where G_Drum_where (hr.mono (by decide)) b_Drum_where .nil pass0 (pa_cons (pv 2) pa_nil)) (pg_tup rfl (pgs_cons (pg_name (i := 3) sc_above.nd rfl (Or.inl rfl)) (pgs_cons (pg_name (i := 4) sc_above.nd rfl (Or.inl rfl)) (pgs_cons (pg_name (i := 5) sc_above.nd rfl (Or.inl rfl)) pgs_nil)))))
      (pss_cons (ps_asg (pe_call G__met (hr.mono (by decide)) rfl T.g__met T.k__met b__met .nil pass0 (pa_cons (pv 0) (pa_cons (pv 4) (pa_cons (pv 5) (pa_cons (pe_op op_add (pv 3) pe_int) pa_nil))))) (pg_tup rfl (pgs_cons (pg_name (i := 6) sc_above.nd rfl (Or.inl rfl)) (pgs_cons (pg_name (i := 7) sc_above.nd rfl (Or.inl rfl)) pgs_nil))))
      (pss_cons (ps_if (pt_cmpR op_ge (pv 6) (pv 1) (nomark _)) (pss_one (ps_ret pe_non)) pss_nil)
      (pss_one (ps_ret (pe_tup (pa_cons (pv 6) (pa_cons (pe_callB (cl_min rfl) (by rfl) T.z_min (by decide +kernel) (pa_cons (pv 7) (pa_cons (pe_op op_sub (pv 1) pe_int) pa_nil))) pa_nil)))))))))), ?_⟩
    show (_ : TS) _ [some (.ref p), some (.int n), some (.int c), none, none, none, none, none] _
    try dsimp only [nk]
    have g0 := tOf_nn d.f1 d.s0 h0
    have g1 := tOf_lec d.f1 d.s0 h0
    have g2 := plc_nn d.f1 d.s0 h0
    have g3 := plc_lt d.f1 d.s0 h0
    have bz : Bd 1000 (siz f s c) := by
      have bt : Bd 700 (tOf f s c) := Bd.of g0 (by omega)
      unfold siz; walk_at "bdm"
    have bz' := bz.lt
    walk_at "rd"
    refine y_where d h0 (by omega) fun q H1 s1 e1 => ?_
    walk_at "rd"
    refine y_met (d.same s1) g2 g3 bz' (by omega) (by omega) fun q2 H2 s2 e2 => ?_
    walk_at "rd"
    refine x_ite (p := n ≤ abL f s c) (fun e => ?_) (fun e => ?_)
    · walk_at "rd"
      exact k1 e _ (s1.trans s2)
    · walk_at "rd"
      intro q3 hq3
      exact k2 e q3 _ ((s1.trans s2).trans (same_upd hq3)) upd_same
theorem sc_beneath : FnScope ["drum", "cell", "turn", "place", "size"] ["drum", "cell"] (defScope s_beneath) := ⟨rfl, rfl, rfl, by decide +kernel, rfl, by decide +kernel, by decide +kernel⟩
theorem ok_beneath {P : Program} {w : World} {K : PySem.W.Frag} {mg : Str → Option Value} {base : Heap} (T : Txt K mg) : ∃ fd, FnOk P w K mg base CX0 6 (He.ga K "beneath") fd ["drum", "cell"] (sp_beneath K) ∧ Binds K fd ["drum", "cell"] [] ∧ FunD K d_beneath.name d_beneath.qual d_beneath.params d_beneath.body d_beneath.scope (d_beneath.dvs K) (d_beneath.kws K) (He.fAd K d_beneath.at_) fd := by
  obtain ⟨fd__met, G__met, b__met, F__met⟩ := ok__met (P := P) (w := w) (base := base) T
  obtain ⟨fd_Drum_where, G_Drum_where, b_Drum_where, F_Drum_where⟩ := ok_Drum_where (P := P) (w := w) (base := base) T
  obtain ⟨fd, F⟩ := T.f_beneath
  refine ⟨fd, ?_, F.bindsN fun _ _ _ _ _ _ us hl => match us, hl with | [_, _], _ => rfl, F⟩
  refine F.ok (k := 5) sc_beneath (fun vs H Q E h => ?_) (fun cdv A outer s H vs Q E hr h => ?_)
  · obtain ⟨p, f, s, c, rfl, _⟩ := h
    rfl
  · obtain ⟨p, f, s, c, rfl, d, h0, h1, k1, k2⟩ := h
    refine ⟨_, PSs.nox (pss_cons (ps_asg (pe_meth (pv 0) T.cl_Drum T.m_Drum_where G_Drum_where (hr.mono (by decide)) b_Drum_where .nil pass0 (pa_cons (pv 1) pa_nil)) (pg_tup rfl (pgs_cons (pg_name (i := 2) sc_beneath.nd rfl (Or.inl rfl)) (pgs_cons (pg_name (i := 3) sc_beneath.nd rfl (Or.inl rfl)) (pgs_cons (pg_name (i := 4) sc_beneath.nd rfl (Or.inl rfl)) pgs_nil)))))
      (pss_cons (ps_if (pt_cmpR op_eq (pv 2) pe_int (nomark _)) (pss_one (ps_ret pe_non)) pss_nil)
      (pss_one (ps_ret (pe_call G__met (hr.mono (by decide)) rfl T.g__met T.k__met b__met .nil pass0 (pa_cons (pv 0) (pa_cons (pv 3) (pa_cons (pv 4) (pa_cons (pe_op op_sub (pv 2) pe_int) pa_nil))))))))), ?_⟩
    show (_ : TS) _ [some (.ref p), some (.int c), none, none, none] _
    try dsimp only [nk]
    have g0 := tOf_nn d.f1 d.s0 h0
    have g1 := tOf_lec d.f1 d.s0 h0
    have g2 := plc_nn d.f1 d.s0 h0
    have g3 := plc_lt d.f1 d.s0 h0
    have bz : Bd 1000 (siz f s c) := by
      have bt : Bd 700 (tOf f s c) := Bd.of g0 (by omega)
      unfold siz; walk_at "bdm"
    have bz' := bz.lt
    walk_at "rd"
    refine y_where d h0 (by omega) fun q H1 s1 e1 => ?_
    walk_at "rd"
    refine x_ite (fun e => ?_) (fun e => ?_)
    · walk_at "rd"
      exact k1 e _ s1
    · walk_at "rd"
      refine y_met (d.same s1) g2 g3 bz' (by omega) (by omega) fun q2 H2 s2 e2 => ?_
      exact k2 e q2 H2 (s1.trans s2) e2
theorem sc__law_beside : FnScope ["_law_source", "_law_first", "_law_step", "_law_face_here", "_law_drum_here", "_law_turn", "_law_place", "_law_size", "_law_here", "_law_side", "_law_wide", "_law_part"] ["_law_source", "_law_first", "_law_step", "_law_face_here"] (defScope s__law_beside) := ⟨rfl, rfl, rfl, by decide +kernel, rfl, by decide +kernel, by decide +kernel⟩
theorem ok__law_beside {P : Program} {w : World} {K : PySem.W.Frag} {mg : Str → Option Value} {base : Heap} (T : Txt K mg) : ∃ fd, FnOk P w K mg base CX0 6 (He.ga K "_law_beside") fd ["_law_source", "_law_first", "_law_step", "_law_face_here"] sp__law_beside ∧ Binds K fd ["_law_source", "_law_first", "_law_step", "_law_face_here"] [] ∧ FunD K d__law_beside.name d__law_beside.qual d__law_beside.params d__law_beside.body d__law_beside.scope (d__law_beside.dvs K) (d__law_beside.kws K) (He.fAd K d__law_beside.at_) fd := by
  obtain ⟨fd__law_begins, G__law_begins, b__law_begins, F__law_begins⟩ := ok__law_begins (P := P) (w := w) (base := base) T
  obtain ⟨fd__law_great, G__law_great, b__law_great, F__law_great⟩ := ok__law_great (P := P) (w := w) (base := base) T
  obtain ⟨fd__law_common, G__law_common, b__law_common, F__law_common⟩ := ok__law_common (P := P) (w := w) (base := base) T
  obtain ⟨fd__law_next, G__law_next, b__law_next, F__law_next⟩ := ok__law_next (P := P) (w := w) (base := base) T
  obtain ⟨fd_Drum_where, G_Drum_where, b_Drum_where, F_Drum_where⟩ := ok_Drum_where (P := P) (w := w) (base := base) T
  obtain ⟨fd_Drumu__initu_, G_Drumu__initu_, b_Drumu__initu_, F_Drumu__initu_⟩ := ok_Drumu__initu_ (P := P) (w := w) (base := base) T
  obtain ⟨fd, F⟩ := T.f__law_beside
  refine ⟨fd, ?_, F.bindsN fun _ _ _ _ _ _ us hl => match us, hl with | [_, _, _, _], _ => rfl, F⟩
  refine F.ok (k := 5) sc__law_beside (fun vs H Q E h => ?_) (fun cdv A outer s H vs Q E hr h => ?_)
  · obtain ⟨a, q, n, f, s, c, i, rfl, _⟩ := h
    rfl
  · obtain ⟨a, q, n, f, s, c, i, rfl, hs, hn, f1, f2, s1, s2, e, c0, c1, k⟩ := h
    refine ⟨_, PSs.nox (pss_cons (ps_set (i := 4) sc__law_beside.nd rfl (Or.inl rfl) (pe_make T.mk_Drum G_Drumu__initu_ (hr.mono (by decide)) rfl T.g_Drum b_Drumu__initu_ .nil pass0 (pa_cons (pv 1) (pa_cons (pv 2) pa_nil))))
      (pss_cons (ps_asg (pe_meth (pv 4) T.cl_Drum T.m_Drum_where G_Drum_where (hr.mono (by decide)) b_Drum_where .nil pass0 (pa_cons (pe_ix ix_tup (pv 3) pe_int (fun _ _ => rfl)) pa_nil)) (pg_tup rfl (pgs_cons (pg_name (i := 5) sc__law_beside.nd rfl (Or.inl rfl)) (pgs_cons (pg_name (i := 6) sc__law_beside.nd rfl (Or.inl rfl)) (pgs_cons (pg_name (i := 7) sc__law_beside.nd rfl (Or.inl rfl)) pgs_nil)))))
      (pss_cons (ps_par (i := 8) (j := 9) (by rfl) sc__law_beside.nd rfl rfl (by decide) rfl rfl (pa_cons (pv 5) (pa_cons (pe_ix ix_tup (pv 3) pe_int (fun _ _ => rfl)) pa_nil)) (by rfl))
      (C8.pss_cut (ps_if (PW.pt (pw_and (pt_cmpR op_gt (pv 5) pe_int (nomark _)) (pw_and1 (pt_cmpR op_eq (pe_call G__law_next (hr.mono (by decide)) rfl T.g__law_next T.k__law_next b__law_next .nil pass0 (pa_cons (pv 0) (pa_cons pe_int pa_nil))) pe_int (nomark _))))) (pss_one (ps_par (i := 8) (j := 9) (by rfl) sc__law_beside.nd rfl rfl (by decide) rfl rfl (pa_cons (pe_op op_sub (pe_op op_add (pv 5) pe_int) (pe_op op_mulW pe_int (pe_callTy cl_int (by rfl) T.z_int (by decide +kernel) (pa_cons (pe_cmpR op_eq (pv 9) pe_str (nomark _)) pa_nil)))) (pa_cons (pe_dget (Nat.lt_of_le_of_lt (Nat.add_le_add_left (show 1 ≤ 65 by decide) _) (room65 hr)) (pe_disp (pps_cons pe_str pe_str (pps_cons pe_str pe_str pps_nil)) rfl rfl (fun h => nomatch h) (by decide)) (pv 9) (fun _ _ => rfl)) pa_nil)) (by rfl))) pss_nil)
      (pss_cons (ps_set (i := 10) sc__law_beside.nd rfl (Or.inl rfl) (pe_op op_fdivW (pe_op op_add (pv 1) (pe_op op_mulW (pv 8) (pv 2))) (pe_call G__law_common (hr.mono (by decide)) rfl T.g__law_common T.k__law_common b__law_common .nil pass0 (pa_cons (pv 1) (pa_cons (pv 2) pa_nil)))))
      (pss_cons (ps_set (i := 11) sc__law_beside.nd rfl (Or.inl rfl) (pe_op op_fdivW (pe_op op_mulW (pv 6) (pe_call G__law_common (hr.mono (by decide)) rfl T.g__law_common T.k__law_common b__law_common .nil pass0 (pa_cons (pv 1) (pa_cons (pv 2) pa_nil)))) (pv 7)))
      (pss_one (ps_ret (pe_tup (pa_cons (pe_op op_add (pe_op op_add (pe_call G__law_begins (hr.mono (by decide)) rfl T.g__law_begins T.k__law_begins b__law_begins .nil pass0 (pa_cons (pv 1) (pa_cons (pv 2) (pa_cons (pv 8) pa_nil)))) (pe_op op_mulW (pv 11) (pv 10))) (pe_call G__law_great (hr.mono (by decide)) rfl T.g__law_great T.k__law_great b__law_great .nil pass0 (pa_cons (pv 0) (pa_cons (pv 10) pa_nil)))) (pa_cons (pv 9) pa_nil))))))))))), ?_⟩
    show (_ : TS) _ [some (.ref a), some (.int f), some (.int s), some (.ref q), none, none, none, none, none, none, none, none] _
    try dsimp only [nk]
    have bf : Bd 47 f := Bd.of (by omega) (by omega)
    have bs : Bd 47 s := Bd.of (by omega) (by omega)
    have t0 := tOf_nn f1 s1 c0
    have tc := tOf_lec f1 s1 c0
    have w0 := tOf_le f1 s1 c0
    have w1 := tOf_gt f1 s1 c0
    have ts := mul_nn t0 s1
    have gg1 := gcdI_pos (s := s) f1
    have gg2 := gcdI_le (s := s) f1
    have bt : Bd 250 (tOf f s c) := Bd.of (by omega) (by omega)
    have bc : Bd 250 c := Bd.of (by omega) (by omega)
    have bg : Bd 47 (gcdI f s) := Bd.of (by omega) (by omega)
    have bi : Bd 1 (if i = true then (1 : Int) else 0) := by cases i <;> exact Bd.of (by decide) (by decide)
    have bw : Bd 250 (c - Bg f s (tOf f s c)) := Bd.of (by omega) (by have := bg_ge f1 s1 t0; omega)
    walk_at "rd"
    refine x_mkP (by omega) (by omega) (by omega) (by omega) fun pd Hd hd sd Dd => ?_
    walk_at "rd"
    refine y_where Dd c0 (by omega) fun qw Hw sw ew => ?_
    have sH := sd.trans sw
    have hs := hs.same sH
    have e := sH _ _ e
    walk_at "rd"
    refine x_cut (fun σ' H' => ∃ (h : Int) (j : Bool), σ' = [some (.ref a), some (.int f), some (.int s), some (.ref q), some (.ref pd), some (.int (tOf f s c)), some (.int (c - Bg f s (tOf f s c))), some (.int (f + tOf f s c * s)), some (.int h), some (.str (sdS j)), none, none] ∧ 0 ≤ h ∧ h ≤ c + 1 ∧ Src H' a (n + 1) ∧ But a Hw H') ?_ ?_
    · walk_at "rd"
      by_cases h : 0 < tOf f s c
      · rw [if_pos (decide_eq_true h)]
        walk_at "rd"
        refine y_next hs (by omega) (by omega) (by omega) fun r1 H1 _ _ S1 B1 => ?_
        walk_at "rd"
        by_cases h2 : r1 = 0
        · rw [if_pos (decide_eq_true h2)]
          walk_at "rd"
          refine x_rEqIn ?_
          walk_at "rd"
          refine x_swap rfl fun H2 z2 => ?_
          walk_at "rd"
          exact ⟨_, _, rfl, by cases i <;> simp <;> omega, by cases i <;> simp <;> omega, S1.same z2, B1.trans (But.of z2)⟩
        · rw [if_neg (by simpa using h2)]
          walk_at "rd"
          exact ⟨_, i, rfl, t0, by omega, S1, B1⟩
      · rw [if_neg (by simpa using h)]
        walk_at "rd"
        exact ⟨_, i, rfl, t0, by omega, hs.mono (by omega), But.refl _ _⟩
    · rintro σ' H1 ⟨h, j, rfl, h0, h1, S1, B1⟩
      have bh : Bd 251 h := Bd.of (by omega) (by omega)
      have hz := mul_nn h0 s1
      have zw := dvd_part gg1 (show 1 ≤ f + h * s by omega) (gcdI_dz f s h)
      walk_at "rd"
      refine y_common (by omega) s1 ?_
      walk_at "rd"
      refine y_common (by omega) s1 ?_
      walk_at "rd"
      have bz : Bd 600 ((f + h * s) / gcdI f s) := Bd.mono (Bd.div (Bd.add bf (Bd.mul bh bs))) (by decide)
      have bz' := bz.lt
      have p0 : 0 ≤ (c - Bg f s (tOf f s c)) * gcdI f s / (f + tOf f s c * s) := Int.ediv_nonneg (mul_nn (by omega) (by omega)) (by omega)
      have p1 := mul_nn p0 (show 0 ≤ (f + h * s) / gcdI f s by omega)
      have p2 := bg_ge f1 s1 h0
      refine y_great S1 (by omega) (by omega) (Int.lt_trans bz' (by decide)) fun g H2 g0 _ S2 B2 => ?_
      walk_at "rd"
      intro t ht
      exact k t _ _ j (by omega) ((S2.upd ht).mono (by omega)) ((((But.of sH).trans B1).trans B2).trans (But.of (same_upd ht))) upd_same
theorem sc__ground : FnScope ["drum", "length", "face", "cell", "side"] ["drum", "length", "face"] (defScope s__ground) := ⟨rfl, rfl, rfl, by decide +kernel, rfl, by decide +kernel, by decide +kernel⟩
theorem ok__ground {P : Program} {w : World} {K : PySem.W.Frag} {mg : Str → Option Value} {base : Heap} (T : Txt K mg) : ∃ fd, FnOk P w K mg base CX0 7 (He.ga K "_ground") fd ["drum", "length", "face"] (sp__ground K) ∧ Binds K fd ["drum", "length", "face"] [] ∧ FunD K d__ground.name d__ground.qual d__ground.params d__ground.body d__ground.scope (d__ground.dvs K) (d__ground.kws K) (He.fAd K d__ground.at_) fd := by
  obtain ⟨fd_above, G_above, b_above, F_above⟩ := ok_above (P := P) (w := w) (base := base) T
  obtain ⟨fd_beneath, G_beneath, b_beneath, F_beneath⟩ := ok_beneath (P := P) (w := w) (base := base) T
  obtain ⟨fd, F⟩ := T.f__ground
  refine ⟨fd, ?_, F.bindsN fun _ _ _ _ _ _ us hl => match us, hl with | [_, _, _], _ => rfl, F⟩
  refine F.ok (k := 6) sc__ground (fun vs H Q E h => ?_) (fun cdv A outer s H vs Q E hr h => ?_)
  · obtain ⟨p, f, s, n, q, c, i, rfl, _⟩ := h
    rfl
  · obtain ⟨p, f, s, n, q, c, i, rfl, d, e, h0, h1, h2, k1, k2⟩ := h
    refine ⟨_, PSs.nox (pss_cons (ps_asg (pv 2) (pg_tup rfl (pgs_cons (pg_name (i := 3) sc__ground.nd rfl (Or.inl rfl)) (pgs_cons (pg_name (i := 4) sc__ground.nd rfl (Or.inl rfl)) pgs_nil))))
      (pss_cons (ps_if (pt_cmpR op_eq (pv 4) pe_str (nomark _)) (pss_one (ps_ret (pe_call G_beneath (hr.mono (by decide)) rfl T.g_beneath T.k_beneath b_beneath .nil pass0 (pa_cons (pv 0) (pa_cons (pv 3) pa_nil))))) pss_nil)
      (pss_cons (ps_if (pt_cmpR cp_isN (pe_call G_above (hr.mono (by decide)) rfl T.g_above T.k_above b_above .nil pass0 (pa_cons (pv 0) (pa_cons (pv 1) (pa_cons (pv 3) pa_nil)))) pe_non (nomark _)) (pss_one (ps_ret pe_non)) pss_nil)
      (pss_one (ps_ret (pe_tup (pa_cons (pv 3) (pa_cons (pv 3) pa_nil)))))))), ?_⟩
    show (_ : TS) _ [some (.ref p), some (.int n), some (.ref q), none, none] _
    try dsimp only [nk]
    walk_at "rd"
    refine x_rEqIn ?_
    walk_at "rd"
    refine x_iteB (fun g => ?_) (fun g => ?_) <;> subst g
    · walk_at "rd"
      refine y_beneath d h0 (by omega) (fun z H1 s1 => ?_) (fun z q1 H1 s1 e1 => ?_)
      · exact k1 z _ s1
      · exact k2 z _ _ s1 e1
    · walk_at "rd"
      refine y_above d (by omega) h0 h1 h2 (fun z H1 s1 => ?_) (fun z q1 H1 s1 e1 => ?_)
      · walk_at "rd"
        exact k1 z _ s1
      · walk_at "rd"
        intro r hr
        exact k2 z r _ (s1.trans (same_upd hr)) upd_same
theorem sc_piece : FnScope ["drum", "length", "face", "ground", "turn", "place", "size", "many", "number", "part", "low", "first", "last"] ["drum", "length", "face"] (defScope s_piece) := ⟨rfl, rfl, rfl, by decide +kernel, rfl, by decide +kernel, by decide +kernel⟩
theorem ok_piece {P : Program} {w : World} {K : PySem.W.Frag} {mg : Str → Option Value} {base : Heap} (T : Txt K mg) : ∃ fd, FnOk P w K mg base CX0 8 (He.ga K "piece") fd ["drum", "length", "face"] (sp_piece K) ∧ Binds K fd ["drum", "length", "face"] [] ∧ FunD K d_piece.name d_piece.qual d_piece.params d_piece.body d_piece.scope (d_piece.dvs K) (d_piece.kws K) (He.fAd K d_piece.at_) fd := by
  obtain ⟨fd_beneath, G_beneath, b_beneath, F_beneath⟩ := ok_beneath (P := P) (w := w) (base := base) T
  obtain ⟨fd_Drum_begins, G_Drum_begins, b_Drum_begins, F_Drum_begins⟩ := ok_Drum_begins (P := P) (w := w) (base := base) T
  obtain ⟨fd_Drum_size, G_Drum_size, b_Drum_size, F_Drum_size⟩ := ok_Drum_size (P := P) (w := w) (base := base) T
  obtain ⟨fd__sectors, G__sectors, b__sectors, F__sectors⟩ := ok__sectors (P := P) (w := w) (base := base) T
  obtain ⟨fd_Drum_where, G_Drum_where, b_Drum_where, F_Drum_where⟩ := ok_Drum_where (P := P) (w := w) (base := base) T
  obtain ⟨fd__lone, G__lone, b__lone, F__lone⟩ := ok__lone (P := P) (w := w) (base := base) T
  obtain ⟨fd__ground, G__ground, b__ground, F__ground⟩ := ok__ground (P := P) (w := w) (base := base) T
  obtain ⟨fd_check_face, G_check_face, b_check_face, F_check_face⟩ := ok_check_face (P := P) (w := w) (base := base) T
  obtain ⟨fd_check_length, G_check_length, b_check_length, F_check_length⟩ := ok_check_length (P := P) (w := w) (base := base) T
  obtain ⟨fd, F⟩ := T.f_piece
  refine ⟨fd, ?_, F.bindsN fun _ _ _ _ _ _ us hl => match us, hl with | [_, _, _], _ => rfl, F⟩
  refine F.ok (k := 7) sc_piece (fun vs H Q E h => ?_) (fun cdv A outer s H vs Q E hr h => ?_)
  · obtain ⟨p, f, s, n, q, c, i, rfl, _⟩ := h
    rfl
  · obtain ⟨p, f, s, n, q, c, i, rfl, d, e, h0, h1, h2, k⟩ := h
    refine ⟨_, PSs.nox (pss_cons (ps_expr (pe_call G_check_length (hr.mono (by decide)) rfl T.g_check_length T.k_check_length b_check_length .nil pass0 (pa_cons (pv 1) pa_nil)))
      (pss_cons (ps_expr (pe_call G_check_face (hr.mono (by decide)) rfl T.g_check_face T.k_check_face b_check_face .nil pass0 (pa_cons (pv 1) (pa_cons (pv 2) pa_nil))))
      (pss_cons (ps_set (i := 3) sc_piece.nd rfl (Or.inl rfl) (pe_call G__ground (hr.mono (by decide)) rfl T.g__ground T.k__ground b__ground .nil pass0 (pa_cons (pv 0) (pa_cons (pv 1) (pa_cons (pv 2) pa_nil)))))
      (pss_cons (ps_if (pt_cmpR cp_isN (pv 3) pe_non (nomark _)) (pss_one (ps_ret (pe_call G__lone (hr.mono (by decide)) rfl T.g__lone T.k__lone b__lone .nil pass0 (pa_cons (pv 2) pa_nil)))) pss_nil)
      (pss_cons (ps_asg (pe_meth (pv 0) T.cl_Drum T.m_Drum_where G_Drum_where (hr.mono (by decide)) b_Drum_where .nil pass0 (pa_cons (pe_ix ix_tup (pv 3) pe_int (fun _ _ => rfl)) pa_nil)) (pg_tup rfl (pgs_cons (pg_name (i := 4) sc_piece.nd rfl (Or.inl rfl)) (pgs_cons (pg_name (i := 5) sc_piece.nd rfl (Or.inl rfl)) (pgs_cons (pg_name (i := 6) sc_piece.nd rfl (Or.inl rfl)) pgs_nil)))))
      (pss_cons (ps_set (i := 7) sc_piece.nd rfl (Or.inl rfl) (pe_call G__sectors (hr.mono (by decide)) rfl T.g__sectors T.k__sectors b__sectors .nil pass0 (pa_cons (pv 0) pa_nil)))
      (pss_cons (ps_set (i := 8) sc_piece.nd rfl (Or.inl rfl) (pe_op op_fdivW (pv 5) (pe_op op_fdivW (pv 6) (pv 7))))
      (pss_cons (ps_set (i := 9) sc_piece.nd rfl (Or.inl rfl) (pe_op op_fdivW (pe_meth (pv 0) T.cl_Drum T.m_Drum_size G_Drum_size (hr.mono (by decide)) b_Drum_size .nil pass0 (pa_cons (pe_op op_add (pv 4) pe_int) pa_nil)) (pv 7)))
      (pss_cons (ps_set (i := 10) sc_piece.nd rfl (Or.inl rfl) (pe_op op_add (pe_meth (pv 0) T.cl_Drum T.m_Drum_begins G_Drum_begins (hr.mono (by decide)) b_Drum_begins .nil pass0 (pa_cons (pv 4) pa_nil)) (pe_op op_mulW (pv 8) (pe_op op_fdivW (pv 6) (pv 7)))))
      (pss_cons (ps_set (i := 11) sc_piece.nd rfl (Or.inl rfl) (pe_op op_add (pe_meth (pv 0) T.cl_Drum T.m_Drum_begins G_Drum_begins (hr.mono (by decide)) b_Drum_begins .nil pass0 (pa_cons (pe_op op_add (pv 4) pe_int) pa_nil)) (pe_op op_mulW (pv 8) (pv 9))))
      (pss_cons (ps_set (i := 12) sc_piece.nd rfl (Or.inl rfl) (pe_op op_sub (pe_callB (cl_min rfl) (by rfl) T.z_min (by decide +kernel) (pa_cons (pe_op op_add (pv 11) (pv 9)) (pa_cons (pv 1) pa_nil))) pe_int))
      (pss_one (ps_ret (pe_tup (pa_cons (pe_tup (pa_cons (pv 10) (pa_cons (pe_ix ix_tup (pe_call G_beneath (hr.mono (by decide)) rfl T.g_beneath T.k_beneath b_beneath .nil pass0 (pa_cons (pv 0) (pa_cons (pv 12) pa_nil))) pe_int (fun _ _ => rfl)) pa_nil))) (pa_cons (pe_tup (pa_cons (pv 11) (pa_cons (pv 12) pa_nil))) pa_nil)))))))))))))))), ?_⟩
    show (_ : TS) _ [some (.ref p), some (.int n), some (.ref q), none, none, none, none, none, none, none, none, none, none] _
    try dsimp only [nk]
    have f1 := d.f1
    have z0 := d.s0
    walk_at "rd"
    refine y_check_face e h0 h1 fun H1 s1 => ?_
    walk_at "rd"
    refine y_ground (d.same s1) (s1 _ _ e) h0 h1 (by omega) (fun z H2 s2 => ?_) (fun z q2 H2 s2 e2 => ?_)
    · walk_at "rd"
      refine y_lone (s2 _ _ (s1 _ _ e)) fun r H3 v w s3 e3 w1 w2 => ?_
      walk_at "rd"
      refine k r H3 v w ((s1.trans s2).trans s3) e3 ?_ ?_
      · unfold pcL; rw [if_pos z]; exact w1
      · unfold pcU; rw [if_pos z]; exact w2
    · obtain ⟨G0, G1⟩ : 0 ≤ gL f s c i ∧ abL f s (gL f s c i) < n := by
        cases i
        · exact ⟨h0, by unfold gNo at z; simp at z; exact z⟩
        · unfold gNo at z
          simp at z
          obtain ⟨a1, a2, a3⟩ := ab_bn f1 z0 h0 z
          exact ⟨a1, by show abL f s (bnL f s c) < n; omega⟩
      obtain ⟨m0, w1, v1, b0, b1, b2, b3, b4, b5, b6, b7, b8, b9⟩ := piece_facts f1 z0 G0 G1
      have k' := k
      unfold pcL pcU at k'
      rw [if_neg z, if_neg z] at k'
      clear k
      have AG := (ab_next f1 z0 G0).2.2
      generalize gH f s c i = Gh at *
      generalize gL f s c i = G at *
      have g0 := tOf_nn f1 z0 G0
      have g1 := tOf_lec f1 z0 G0
      have p0 := plc_nn f1 z0 G0
      have gg := gcdI_pos (s := s) f1
      have gl := gcdI_le (s := s) f1
      have f2 := d.f2
      have bg : Bd 50 (gcdI f s) := Bd.of (by omega) (by omega)
      have bG : Bd 600 G := Bd.of G0 (by omega)
      have bt : Bd 600 (tOf f s G) := Bd.of g0 (by omega)
      have bf := d.bf
      have bs := d.bs
      have bz : Bd 900 (siz f s G) := by unfold siz; walk_at "bdm"
      have bw : Bd 900 (siz f s G / gcdI f s) := bz.div
      have bq : Bd 900 (prt f s G) := by unfold prt; apply Bd.div; walk_at "bdm"
      have p1 := plc_lt f1 z0 G0
      have bp : Bd 900 (plc f s G) := Bd.of p0 (by have := bz.lt; omega)
      have bm : Bd 900 (secN f s G) := by unfold secN; exact bp.div
      walk_at "rd"
      refine y_where (d.same (s1.trans s2)) G0 (by omega) fun q3 H3 s3 e3 => ?_
      walk_at "rd"
      refine y_sectors (by walk_at "drm") ?_
      walk_at "rd"
      refine x_rI (C := CDivW) (show CDivW (plc f s G) (siz f s G / gcdI f s) from cd w1 bw (by decide)) ?_
      walk_at "rd"
      have em : (G - Bg f s (tOf f s G)) / ((f + tOf f s G * s) / gcdI f s) = secN f s G := rfl
      have ew : (f + tOf f s G * s) / gcdI f s = siz f s G / gcdI f s := rfl
      have eq : (f + (tOf f s G + 1) * s) / gcdI f s = prt f s G := rfl
      rw [em, ew, eq]
      walk_at "rd"
      have eF : Bg f s (tOf f s G + 1) + secN f s G * prt f s G = pFi f s G := rfl
      have eL : min (pFi f s G + prt f s G) n - 1 = pLa f s n G := rfl
      have eO : Bg f s (tOf f s G) + secN f s G * (siz f s G / gcdI f s) = pLo f s G := rfl
      rw [eF, eL, eO]
      refine y_beneath (by walk_at "drm") (by omega) (by omega) (fun x => by omega) fun _ q4 H4 s4 e4 => ?_
      walk_at "rd"
      intro r1 hr1
      walk_at "rd"
      intro r2 hr2
      walk_at "rd"
      intro r hr
      exact k' r _ _ _ ((((((s1.trans s2).trans s3).trans s4).trans (same_upd hr1)).trans (same_upd hr2)).trans (same_upd hr)) upd_same ⟨r1, rfl, by walk_at "at"⟩ ⟨r2, rfl, by walk_at "at"⟩
theorem sc__amidst : FnScope ["drum", "length", "one", "other", "many", "mine", "theirs", "start", "way", "touches", "low"] ["drum", "length", "one", "other", "many"] (defScope s__amidst) := ⟨rfl, rfl, rfl, by decide +kernel, rfl, by decide +kernel, by decide +kernel⟩
theorem ok__amidst {P : Program} {w : World} {K : PySem.W.Frag} {mg : Str → Option Value} {base : Heap} (T : Txt K mg) : ∃ fd, FnOk P w K mg base CX0 8 (He.ga K "_amidst") fd ["drum", "length", "one", "other", "many"] (sp__amidst K) ∧ Binds K fd ["drum", "length", "one", "other", "many"] [] ∧ FunD K d__amidst.name d__amidst.qual d__amidst.params d__amidst.body d__amidst.scope (d__amidst.dvs K) (d__amidst.kws K) (He.fAd K d__amidst.at_) fd := by
  obtain ⟨fd_above, G_above, b_above, F_above⟩ := ok_above (P := P) (w := w) (base := base) T
  obtain ⟨fd__rise, G__rise, b__rise, F__rise⟩ := ok__rise (P := P) (w := w) (base := base) T
  obtain ⟨fd__ground, G__ground, b__ground, F__ground⟩ := ok__ground (P := P) (w := w) (base := base) T
  obtain ⟨fd, F⟩ := T.f__amidst
  refine ⟨fd, ?_, F.bindsN fun _ _ _ _ _ _ us hl => match us, hl with | [_, _, _, _, _], _ => rfl, F⟩
  refine F.ok (k := 7) sc__amidst (fun vs H Q E h => ?_) (fun cdv A outer s H vs Q E hr h => ?_)
  · obtain ⟨p, f, s, n, q, c, i, r, d, j, m, rfl, _⟩ := h
    rfl
  · obtain ⟨p, f, s, n, q, c, i, r, d, j, m, rfl, D, e, e', h0, h1, h2, h3, h4, g1, g2, ne, m0, m1, k⟩ := h
    refine ⟨_, PSs.nox (pss_cons (ps_set (i := 5) sc__amidst.nd rfl (Or.inl rfl) (pe_call G__ground (hr.mono (by decide)) rfl T.g__ground T.k__ground b__ground .nil pass0 (pa_cons (pv 0) (pa_cons (pv 1) (pa_cons (pv 2) pa_nil)))))
      (pss_cons (ps_set (i := 6) sc__amidst.nd rfl (Or.inl rfl) (pe_call G__ground (hr.mono (by decide)) rfl T.g__ground T.k__ground b__ground .nil pass0 (pa_cons (pv 0) (pa_cons (pv 1) (pa_cons (pv 3) pa_nil)))))
      (pss_cons (ps_set (i := 7) sc__amidst.nd rfl (Or.inl rfl) (pe_callB (cl_min rfl) (by rfl) T.z_min (by decide +kernel) (pa_cons (pe_callB (cl_max rfl) (by rfl) T.z_max (by decide +kernel) (pa_cons (pe_ix ix_tup (pv 5) pe_int (fun _ _ => rfl)) (pa_cons (pe_ix ix_tup (pv 6) pe_int (fun _ _ => rfl)) pa_nil))) (pa_cons (pe_ix ix_tup (pv 5) pe_int (fun _ _ => rfl)) pa_nil))))
      (pss_cons (ps_set (i := 8) sc__amidst.nd rfl (Or.inl rfl) (pe_ifExp (pt_cmpR op_ge (pe_ix ix_tup (pv 6) pe_int (fun _ _ => rfl)) (pv 7) (nomark _)) pe_int (pe_un un_neg pe_int)))
      (pss_cons (ps_set (i := 9) sc__amidst.nd rfl (Or.inl rfl) (pe_op op_sub (pv 4) (pe_call G__rise (hr.mono (by decide)) rfl T.g__rise T.k__rise b__rise .nil pass0 (pa_cons (pv 2) pa_nil))))
      (pss_cons (ps_set (i := 10) sc__amidst.nd rfl (Or.inl rfl) (pe_op op_add (pv 7) (pe_op op_mulW (pv 8) (pe_op op_fdivW (pv 9) pe_int))))
      (pss_cons (ps_if (pt_cmpR op_eq (pe_op op_modN (pv 9) pe_int) pe_int (nomark _)) (pss_one (ps_ret (pe_tup (pa_cons (pv 10) (pa_cons pe_str pa_nil))))) pss_nil)
      (pss_one (ps_ret (pe_tup (pa_cons (pe_ix ix_tup (pe_call G_above (hr.mono (by decide)) rfl T.g_above T.k_above b_above .nil pass0 (pa_cons (pv 0) (pa_cons (pv 1) (pa_cons (pe_callB (cl_min rfl) (by rfl) T.z_min (by decide +kernel) (pa_cons (pv 10) (pa_cons (pe_op op_add (pv 10) (pv 8)) pa_nil))) pa_nil)))) pe_int (fun _ _ => rfl)) (pa_cons pe_str pa_nil)))))))))))), ?_⟩
    show (_ : TS) _ [some (.ref p), some (.int n), some (.ref q), some (.ref r), some (.int m), none, none, none, none, none, none] _
    try dsimp only [nk]
    have f1 := D.f1
    have z0 := D.s0
    obtain ⟨_, _, A1, A2, A3, A4, _⟩ := piece_ends f1 z0 h0 h1 g1
    obtain ⟨_, _, B1, B2, B3, B4, _⟩ := piece_ends f1 z0 h2 h3 g2
    obtain ⟨A0, _⟩ := gL_nn f1 z0 h0 h1 g1
    obtain ⟨B0, _⟩ := gL_nn f1 z0 h2 h3 g2
    have ri : 0 ≤ rsI i ∧ rsI i ≤ 1 := by cases i <;> decide
    have rj : 0 ≤ rsI j ∧ rsI j ≤ 1 := by cases j <;> decide
    have me : ¬ m = 0 := by omega
    have mf : ¬ m = apI f s c i d j := by omega
    have m1' := m1
    unfold apI at m1'
    rw [if_neg ne] at m1'
    unfold owC owI at k
    rw [if_neg me, if_neg mf, if_neg me, if_neg mf] at k
    have S := am_safe (T := m - rsI i) A1 B1 A0 B0 (by omega) rj.1 rj.2 (by omega)
    walk_at "rd"
    refine y_ground D e h0 h1 (by omega) (fun x => absurd x g1) fun _ q3 H3 s3 e3 => ?_
    walk_at "rd"
    refine y_ground (D.same s3) (s3 _ _ e') h2 h3 (by omega) (fun x => absurd x g2) fun _ q4 H4 s4 e4 => ?_
    have e34 := s4 _ _ e3
    have ef := s4 _ _ (s3 _ _ e)
    have D4 := (D.same s3).same s4
    have s34 := s3.trans s4
    have bT : Bd 700 (m - rsI i) := Bd.of (by omega) (by omega)
    clear s3 s4 e3 D m1 m1' mf
    generalize gL f s c i = a at *
    generalize gH f s c i = b at *
    generalize gL f s d j = u at *
    generalize gH f s d j = v at *
    generalize hT : m - rsI i = T at *
    walk_at "rd"
    refine x_ite (fun g => ?_) (fun g => ?_)
    · have eW : amW a b u = 1 := by unfold amW amS; exact if_pos g
      have eL : amL a b u T = min (max a u) b + 1 * (T / 2) := by unfold amL; rw [eW]; rfl
      walk_at "rd"
      refine y_rise ef ?_
      refine x_rI0 ?_
      dsimp only []
      rw [hT]
      walk_at "rd"
      rw [← eL]
      generalize amL a b u T = lw at *
      rw [eW] at k S
      clear eL eW
      rw [Int.fmod_eq_emod_of_nonneg T (show (0 : Int) ≤ 2 by decide)]
      refine x_ite (fun o => ?_) (fun o => ?_)
      · rw [if_pos o, decide_eq_true o] at k
        walk_at "rd"
        intro t ht
        exact k t _ (s34.trans (same_upd ht)) upd_same
      · rw [if_neg o, decide_eq_false o] at k
        obtain ⟨S0, S1, S2⟩ := S
        obtain ⟨S3, S4⟩ := S2 o
        have AM : abL f s (min lw (lw + 1)) < n := by
          rcases Int.le_total a u with g9 | g9
          · have := ab_le f1 z0 S3 (show min lw (lw + 1) ≤ u by omega)
            omega
          · have := ab_le f1 z0 S3 (show min lw (lw + 1) ≤ a by omega)
            omega
        have ML : min lw (lw + 1) < n := by omega
        generalize hmn : min lw (lw + 1) = mn at *
        walk_at "rd"
        rw [hmn]
        refine y_above D4 (by omega) S3 ML (by omega) (fun x => by omega) (fun _ q5 H5 s5 e5 => ?_)
        walk_at "rd"
        intro t ht
        exact k t _ ((s34.trans s5).trans (same_upd ht)) upd_same
    · have eW : amW a b u = -1 := by unfold amW amS; exact if_neg g
      have eL : amL a b u T = min (max a u) b + -1 * (T / 2) := by unfold amL; rw [eW]; rfl
      walk_at "rd"
      refine y_rise ef ?_
      refine x_rI0 ?_
      dsimp only []
      rw [hT]
      walk_at "rd"
      rw [← eL]
      generalize amL a b u T = lw at *
      rw [eW] at k S
      clear eL eW
      rw [Int.fmod_eq_emod_of_nonneg T (show (0 : Int) ≤ 2 by decide)]
      refine x_ite (fun o => ?_) (fun o => ?_)
      · rw [if_pos o, decide_eq_true o] at k
        walk_at "rd"
        intro t ht
        exact k t _ (s34.trans (same_upd ht)) upd_same
      · rw [if_neg o, decide_eq_false o] at k
        obtain ⟨S0, S1, S2⟩ := S
        obtain ⟨S3, S4⟩ := S2 o
        have AM : abL f s (min lw (lw + -1)) < n := by
          rcases Int.le_total a u with g9 | g9
          · have := ab_le f1 z0 S3 (show min lw (lw + -1) ≤ u by omega)
            omega
          · have := ab_le f1 z0 S3 (show min lw (lw + -1) ≤ a by omega)
            omega
        have ML : min lw (lw + -1) < n := by omega
        generalize hmn : min lw (lw + -1) = mn at *
        walk_at "rd"
        rw [hmn]
        refine y_above D4 (by omega) S3 ML (by omega) (fun x => by omega) (fun _ q5 H5 s5 e5 => ?_)
        walk_at "rd"
        intro t ht
        exact k t _ ((s34.trans s5).trans (same_upd ht)) upd_same
theorem sc_reach : FnScope ["drum", "length", "face", "beats", "whole", "ground", "left", "lowers", "inked", "first", "last"] ["drum", "length", "face", "beats"] (defScope s_reach) := ⟨rfl, rfl, rfl, by decide +kernel, rfl, by decide +kernel, by decide +kernel⟩
theorem ok_reach {P : Program} {w : World} {K : PySem.W.Frag} {mg : Str → Option Value} {base : Heap} (T : Txt K mg) : ∃ fd, FnOk P w K mg base CX0 9 (He.ga K "reach") fd ["drum", "length", "face", "beats"] (sp_reach K) ∧ Binds K fd ["drum", "length", "face", "beats"] [] ∧ FunD K d_reach.name d_reach.qual d_reach.params d_reach.body d_reach.scope (d_reach.dvs K) (d_reach.kws K) (He.fAd K d_reach.at_) fd := by
  obtain ⟨fd_above, G_above, b_above, F_above⟩ := ok_above (P := P) (w := w) (base := base) T
  obtain ⟨fd__lone, G__lone, b__lone, F__lone⟩ := ok__lone (P := P) (w := w) (base := base) T
  obtain ⟨fd__widened, G__widened, b__widened, F__widened⟩ := ok__widened (P := P) (w := w) (base := base) T
  obtain ⟨fd__rise, G__rise, b__rise, F__rise⟩ := ok__rise (P := P) (w := w) (base := base) T
  obtain ⟨fd__ground, G__ground, b__ground, F__ground⟩ := ok__ground (P := P) (w := w) (base := base) T
  obtain ⟨fd_check_beats, G_check_beats, b_check_beats, F_check_beats⟩ := ok_check_beats (P := P) (w := w) (base := base) T
  obtain ⟨fd_piece, G_piece, b_piece, F_piece⟩ := ok_piece (P := P) (w := w) (base := base) T
  obtain ⟨fd, F⟩ := T.f_reach
  refine ⟨fd, ?_, F.bindsN fun _ _ _ _ _ _ us hl => match us, hl with | [_, _, _, _], _ => rfl, F⟩
  refine F.ok (k := 8) sc_reach (fun vs H Q E h => ?_) (fun cdv A outer s H vs Q E hr h => ?_)
  · obtain ⟨p, f, s, n, q, c, i, b, rfl, _⟩ := h
    rfl
  · obtain ⟨p, f, s, n, q, c, i, b, rfl, d, e, h0, h1, h2, b0, k⟩ := h
    refine ⟨_, PSs.nox (pss_cons (ps_set (i := 4) sc_reach.nd rfl (Or.inl rfl) (pe_call G_piece (hr.mono (by decide)) rfl T.g_piece T.k_piece b_piece .nil pass0 (pa_cons (pv 0) (pa_cons (pv 1) (pa_cons (pv 2) pa_nil)))))
      (pss_cons (ps_expr (pe_call G_check_beats (hr.mono (by decide)) rfl T.g_check_beats T.k_check_beats b_check_beats .nil pass0 (pa_cons (pv 3) pa_nil)))
      (pss_cons (ps_set (i := 5) sc_reach.nd rfl (Or.inl rfl) (pe_call G__ground (hr.mono (by decide)) rfl T.g__ground T.k__ground b__ground .nil pass0 (pa_cons (pv 0) (pa_cons (pv 1) (pa_cons (pv 2) pa_nil)))))
      (pss_cons (ps_if (pt_cmpR cp_isN (pv 5) pe_non (nomark _)) (pss_one (ps_ret (pv 4))) pss_nil)
      (pss_cons (ps_set (i := 6) sc_reach.nd rfl (Or.inl rfl) (pe_op op_sub (pv 3) (pe_call G__rise (hr.mono (by decide)) rfl T.g__rise T.k__rise b__rise .nil pass0 (pa_cons (pv 2) pa_nil))))
      (pss_cons (ps_set (i := 7) sc_reach.nd rfl (Or.inl rfl) (pe_call G__widened (hr.mono (by decide)) rfl T.g__widened T.k__widened b__widened .nil pass0 (pa_cons (pe_ix ix_tup (pv 4) pe_int (fun _ _ => rfl)) (pa_cons (pv 5) (pa_cons (pv 6) pa_nil)))))
      (pss_cons (ps_set (i := 8) sc_reach.nd rfl (Or.inl rfl) (pe_call G__widened (hr.mono (by decide)) rfl T.g__widened T.k__widened b__widened .nil pass0 (pa_cons (pe_ix ix_tup (pv 4) pe_int (fun _ _ => rfl)) (pa_cons (pv 5) (pa_cons (pe_op op_sub (pv 6) pe_int) pa_nil)))))
      (pss_cons (ps_if (pt_cmpR cp_isN (pv 8) pe_non (nomark _)) (pss_one (ps_ret (pe_tup (pa_cons (pv 7) (pa_cons (pe_ix ix_tup (pe_call G__lone (hr.mono (by decide)) rfl T.g__lone T.k__lone b__lone .nil pass0 (pa_cons (pv 2) pa_nil)) pe_int (fun _ _ => rfl)) pa_nil))))) pss_nil)
      (pss_cons (ps_set (i := 9) sc_reach.nd rfl (Or.inl rfl) (pe_ix ix_tup (pe_call G_above (hr.mono (by decide)) rfl T.g_above T.k_above b_above .nil pass0 (pa_cons (pv 0) (pa_cons (pv 1) (pa_cons (pe_ix ix_tup (pv 8) pe_int (fun _ _ => rfl)) pa_nil)))) pe_int (fun _ _ => rfl)))
      (pss_cons (ps_set (i := 10) sc_reach.nd rfl (Or.inl rfl) (pe_ix ix_tup (pe_call G_above (hr.mono (by decide)) rfl T.g_above T.k_above b_above .nil pass0 (pa_cons (pv 0) (pa_cons (pv 1) (pa_cons (pe_ix ix_tup (pv 8) pe_int (fun _ _ => rfl)) pa_nil)))) pe_int (fun _ _ => rfl)))
      (pss_one (ps_ret (pe_tup (pa_cons (pv 7) (pa_cons (pe_tup (pa_cons (pv 9) (pa_cons (pv 10) pa_nil))) pa_nil))))))))))))))), ?_⟩
    show (_ : TS) _ [some (.ref p), some (.int n), some (.ref q), some (.int b), none, none, none, none, none, none, none] _
    try dsimp only [nk]
    have f1 := d.f1
    have z0 := d.s0
    walk_at "rd"
    refine y_piece d e h0 h1 h2 fun q1 H1 v1 w1 s1 e1 a1 c1 => ?_
    walk_at "rd"
    refine y_ground (d.same s1) (s1 _ _ e) h0 h1 (by omega) (fun z H2 s2 => ?_) (fun z q2 H2 s2 e2 => ?_)
    · walk_at "rd"
      unfold reL reU at k
      rw [if_pos z, if_pos z] at k
      exact k q1 H2 v1 w1 (s1.trans s2) (s2 _ _ e1) (a1.same s2) (c1.same s2)
    · unfold pcL at a1
      unfold pcU at c1
      rw [if_neg z] at a1 c1
      obtain ⟨r1, rfl, er1⟩ := a1
      obtain ⟨r2, rfl, er2⟩ := c1
      unfold reL reU at k
      rw [if_neg z, if_neg z] at k
      obtain ⟨P0, P1, P2, P3, P4, P5, P6, P7, P8⟩ := piece_ends f1 z0 h0 h1 z
      generalize bnH f s (pLa f s n (gL f s c i)) = hi at *
      generalize pLo f s (gL f s c i) = lo at *
      generalize gL f s c i = gl at *
      generalize gH f s c i = gh at *
      have W : ∀ t' : Int, 0 ≤ t' → 0 ≤ wdL lo gl t' ∧ wdL lo gl t' ≤ gl ∧ 0 ≤ wdH hi gh t' ∧ wdH hi gh t' ≤ hi := by
        intro t' h
        unfold wdL wdH
        have := Int.ediv_nonneg h (show (0 : Int) ≤ 2 by decide)
        omega
      have es := s2 _ _ (s1 _ _ e)
      have e1' := s2 _ _ e1
      have er1' := s2 _ _ er1
      have er2' := s2 _ _ er2
      have d2 := (d.same s1).same s2
      walk_at "rd"
      refine y_rise es ?_
      walk_at "rd"
      generalize hT : b - rsI i = T at *
      refine y_widened er1' e2 (fun t => ?_) (fun t u H3 s3 e3 => ?_)
      · walk_at "rd"
        refine y_widened er1' e2 (fun t2 => ?_) (fun t2 => by omega)
        walk_at "rd"
        refine y_lone es fun r H3 v w s3 e3 w1 w2 => ?_
        walk_at "rd"
        intro r' hr'
        exact k r' _ _ _ (((s1.trans s2).trans s3).trans (same_upd hr')) upd_same (by rw [if_pos t]; exact rfl) (by rw [if_pos t2]; exact w2.same (same_upd hr'))
      · have es3 := s3 _ _ es
        have e13 := s3 _ _ e1'
        have d3 := d2.same s3
        walk_at "rd"
        refine y_widened (s3 _ _ er1') (s3 _ _ e2) (fun t2 => ?_) (fun t2 u2 H4 s4 e4 => ?_)
        · walk_at "rd"
          refine y_lone es3 fun r H4 v w s4 e4 w1 w2 => ?_
          walk_at "rd"
          intro r' hr'
          exact k r' _ _ _ ((((s1.trans s2).trans s3).trans s4).trans (same_upd hr')) upd_same (by rw [if_neg t]; exact ⟨u, rfl, same_upd hr' _ _ (s4 _ _ e3)⟩) (by rw [if_pos t2]; exact w2.same (same_upd hr'))
        · obtain ⟨W0, W1, W2, W3⟩ := W (T - 1) (by omega)
          have AL := ab_le f1 z0 W0 W1
          have AH := ab_le f1 z0 W2 W3
          have d4 := d3.same s4
          walk_at "rd"
          refine y_above d4 (by omega) W0 (by omega) (by omega) (fun g => by omega) (fun _ q5 H5 s5 e5 => ?_)
          walk_at "rd"
          refine y_above (d4.same s5) (by omega) W2 (by omega) (by omega) (fun g => by omega) (fun _ q6 H6 s6 e6 => ?_)
          walk_at "rd"
          intro r3 hr3
          walk_at "rd"
          intro r4 hr4
          exact k r4 _ _ _ ((((((((s1.trans s2).trans s3).trans s4).trans s5).trans s6)).trans (same_upd hr3)).trans (same_upd hr4)) upd_same (by rw [if_neg t]; exact ⟨u, rfl, same_upd hr4 _ _ (same_upd hr3 _ _ (s6 _ _ (s5 _ _ (s4 _ _ e3))))⟩) (by rw [if_neg t2]; exact ⟨r3, rfl, same_upd hr4 _ _ upd_same⟩)
theorem sc_apart : FnScope ["drum", "length", "one", "other", "mine", "theirs", "between"] ["drum", "length", "one", "other"] (defScope s_apart) := ⟨rfl, rfl, rfl, by decide +kernel, rfl, by decide +kernel, by decide +kernel⟩
theorem ok_apart {P : Program} {w : World} {K : PySem.W.Frag} {mg : Str → Option Value} {base : Heap} (T : Txt K mg) : ∃ fd, FnOk P w K mg base CX0 9 (He.ga K "apart") fd ["drum", "length", "one", "other"] (sp_apart K) ∧ Binds K fd ["drum", "length", "one", "other"] [] ∧ FunD K d_apart.name d_apart.qual d_apart.params d_apart.body d_apart.scope (d_apart.dvs K) (d_apart.kws K) (He.fAd K d_apart.at_) fd := by
  obtain ⟨fd__rise, G__rise, b__rise, F__rise⟩ := ok__rise (P := P) (w := w) (base := base) T
  obtain ⟨fd__ground, G__ground, b__ground, F__ground⟩ := ok__ground (P := P) (w := w) (base := base) T
  obtain ⟨fd_piece, G_piece, b_piece, F_piece⟩ := ok_piece (P := P) (w := w) (base := base) T
  obtain ⟨fd, F⟩ := T.f_apart
  refine ⟨fd, ?_, F.bindsN fun _ _ _ _ _ _ us hl => match us, hl with | [_, _, _, _], _ => rfl, F⟩
  refine F.ok (k := 8) sc_apart (fun vs H Q E h => ?_) (fun cdv A outer s H vs Q E hr h => ?_)
  · obtain ⟨p, f, s, n, q, c, i, r, d, j, rfl, _⟩ := h
    rfl
  · obtain ⟨p, f, s, n, q, c, i, r, d, j, rfl, D, e, e', h0, h1, h2, h3, h4, k1, k2⟩ := h
    refine ⟨_, PSs.nox (pss_cons (ps_if (pt_cmpR (op_neD hr.units) (pe_call G_piece (hr.mono (by decide)) rfl T.g_piece T.k_piece b_piece .nil pass0 (pa_cons (pv 0) (pa_cons (pv 1) (pa_cons (pv 2) pa_nil)))) (pe_call G_piece (hr.mono (by decide)) rfl T.g_piece T.k_piece b_piece .nil pass0 (pa_cons (pv 0) (pa_cons (pv 1) (pa_cons (pv 3) pa_nil)))) (nomark _)) (pss_one (ps_ret pe_non)) pss_nil)
      (pss_cons (ps_if (pt_cmpR (op_eqD hr.units) (pv 2) (pv 3) (nomark _)) (pss_one (ps_ret pe_int)) pss_nil)
      (pss_cons (ps_set (i := 4) sc_apart.nd rfl (Or.inl rfl) (pe_call G__ground (hr.mono (by decide)) rfl T.g__ground T.k__ground b__ground .nil pass0 (pa_cons (pv 0) (pa_cons (pv 1) (pa_cons (pv 2) pa_nil)))))
      (pss_cons (ps_set (i := 5) sc_apart.nd rfl (Or.inl rfl) (pe_call G__ground (hr.mono (by decide)) rfl T.g__ground T.k__ground b__ground .nil pass0 (pa_cons (pv 0) (pa_cons (pv 1) (pa_cons (pv 3) pa_nil)))))
      (pss_cons (ps_set (i := 6) sc_apart.nd rfl (Or.inl rfl) (pe_callB (cl_max3 rfl) (by rfl) T.z_max (by decide +kernel) (pa_cons pe_int (pa_cons (pe_op op_sub (pe_ix ix_tup (pv 5) pe_int (fun _ _ => rfl)) (pe_ix ix_tup (pv 4) pe_int (fun _ _ => rfl))) (pa_cons (pe_op op_sub (pe_ix ix_tup (pv 4) pe_int (fun _ _ => rfl)) (pe_ix ix_tup (pv 5) pe_int (fun _ _ => rfl))) pa_nil)))))
      (pss_one (ps_ret (pe_op op_add (pe_op op_add (pe_call G__rise (hr.mono (by decide)) rfl T.g__rise T.k__rise b__rise .nil pass0 (pa_cons (pv 2) pa_nil)) (pe_op op_mulW pe_int (pv 6))) (pe_call G__rise (hr.mono (by decide)) rfl T.g__rise T.k__rise b__rise .nil pass0 (pa_cons (pv 3) pa_nil)))))))))), ?_⟩
    show (_ : TS) _ [some (.ref p), some (.int n), some (.ref q), some (.ref r), none, none, none] _
    try dsimp only [nk]
    have f1 := D.f1
    have z0 := D.s0
    walk_at "rd"
    refine y_piece D e h0 h1 h4 fun q1 H1 v1 w1 s1 e1 a1 b1 => ?_
    walk_at "rd"
    refine y_piece (D.same s1) (s1 _ _ e') h2 h3 h4 fun q2 H2 v2 w2 s2 e2 a2 b2 => ?_
    walk_at "rd"
    refine x_nePP (s2 _ _ e1) e2 (a1.same s2) (b1.same s2) a2 b2 ?_
    walk_at "rd"
    refine x_iteN (fun z => ?_) (fun z => ?_)
    · walk_at "rd"
      exact k1 z _ (s1.trans s2)
    · walk_at "rd"
      have s12 := s1.trans s2
      refine x_eqF (s12 _ _ e) (s12 _ _ e') ?_
      walk_at "rd"
      have k' := k2 z
      refine x_ite (fun g => ?_) (fun g => ?_)
      · walk_at "rd"
        unfold apI at k'
        rw [if_pos g] at k'
        exact k' _ s12
      · walk_at "rd"
        obtain ⟨g1, g2⟩ := hang_no z g
        refine y_ground (D.same s12) (s12 _ _ e) h0 h1 (by omega) (fun x => absurd x g1) fun _ q3 H3 s3 e3 => ?_
        walk_at "rd"
        refine y_ground (by walk_at "drm") (s3 _ _ (s12 _ _ e')) h2 h3 (by omega) (fun x => absurd x g2) fun _ q4 H4 s4 e4 => ?_
        walk_at "rd"
        refine x_max3 ?_
        walk_at "rd"
        have s14 := (s12.trans s3).trans s4
        refine y_rise (s14 _ _ e) ?_
        obtain ⟨_, _, A1, A2, A3, _⟩ := piece_ends f1 z0 h0 h1 g1
        obtain ⟨_, _, B1, B2, B3, _⟩ := piece_ends f1 z0 h2 h3 g2
        obtain ⟨A0, _⟩ := gL_nn f1 z0 h0 h1 g1
        obtain ⟨B0, _⟩ := gL_nn f1 z0 h2 h3 g2
        have bmx : Bd 600 (max (max 0 (gL f s d j - gH f s c i)) (gL f s c i - gH f s d j)) := Bd.of (by omega) (by omega)
        unfold apI at k'
        rw [if_neg g] at k'
        generalize max (max 0 (gL f s d j - gH f s c i)) (gL f s c i - gH f s d j) = mx at *
        walk_at "rd"
        refine y_rise (s14 _ _ e') ?_
        walk_at "rd"
        exact k' _ s14
theorem sc_on_way : FnScope ["drum", "length", "one", "other", "many", "far"] ["drum", "length", "one", "other", "many"] (defScope s_on_way) := ⟨rfl, rfl, rfl, by decide +kernel, rfl, by decide +kernel, by decide +kernel⟩
theorem ok_on_way {P : Program} {w : World} {K : PySem.W.Frag} {mg : Str → Option Value} {base : Heap} (T : Txt K mg) : ∃ fd, FnOk P w K mg base CX0 10 (He.ga K "on_way") fd ["drum", "length", "one", "other", "many"] (sp_on_way K) ∧ Binds K fd ["drum", "length", "one", "other", "many"] [] ∧ FunD K d_on_way.name d_on_way.qual d_on_way.params d_on_way.body d_on_way.scope (d_on_way.dvs K) (d_on_way.kws K) (He.fAd K d_on_way.at_) fd := by
  obtain ⟨fd__amidst, G__amidst, b__amidst, F__amidst⟩ := ok__amidst (P := P) (w := w) (base := base) T
  obtain ⟨fd_is_from, G_is_from, b_is_from, F_is_from⟩ := ok_is_from (P := P) (w := w) (base := base) T
  obtain ⟨fd_apart, G_apart, b_apart, F_apart⟩ := ok_apart (P := P) (w := w) (base := base) T
  obtain ⟨fd, F⟩ := T.f_on_way
  refine ⟨fd, ?_, F.bindsN fun _ _ _ _ _ _ us hl => match us, hl with | [_, _, _, _, _], _ => rfl, F⟩
  refine F.ok (k := 9) sc_on_way (fun vs H Q E h => ?_) (fun cdv A outer s H vs Q E hr h => ?_)
  · obtain ⟨p, f, s, n, q, c, i, r, d, j, m, rfl, _⟩ := h
    rfl
  · obtain ⟨p, f, s, n, q, c, i, r, d, j, m, rfl, D, e, e', h0, h1, h2, h3, h4, k1, k2⟩ := h
    refine ⟨_, PSs.nox (pss_cons (ps_set (i := 5) sc_on_way.nd rfl (Or.inl rfl) (pe_call G_apart (hr.mono (by decide)) rfl T.g_apart T.k_apart b_apart .nil pass0 (pa_cons (pv 0) (pa_cons (pv 1) (pa_cons (pv 2) (pa_cons (pv 3) pa_nil))))))
      (pss_cons (ps_if (pt_cmpR cp_isN (pv 5) pe_non (nomark _)) (pss_one (ps_ret pe_non)) pss_nil)
      (pss_cons (ps_if (PW.pt (pw_or (pt_not (pt_val (pe_call G_is_from (hr.mono (by decide)) rfl T.g_is_from T.k_is_from b_is_from .nil pass0 (pa_cons pe_int (pa_cons (pv 4) pa_nil))))) (pw_or1 (pt_cmpR op_gt (pv 4) (pv 5) (nomark _))))) (pss_one ps_never) pss_nil)
      (pss_cons (ps_if (pt_cmpR op_eq (pv 4) pe_int (nomark _)) (pss_one (ps_ret (pe_callTy cl_tuple (by rfl) T.z_tuple (by decide +kernel) (pa_cons (pv 2) pa_nil)))) pss_nil)
      (pss_cons (ps_if (pt_cmpR op_eq (pv 4) (pv 5) (nomark _)) (pss_one (ps_ret (pe_callTy cl_tuple (by rfl) T.z_tuple (by decide +kernel) (pa_cons (pv 3) pa_nil)))) pss_nil)
      (pss_one (ps_ret (pe_call G__amidst (hr.mono (by decide)) rfl T.g__amidst T.k__amidst b__amidst .nil pass0 (pa_cons (pv 0) (pa_cons (pv 1) (pa_cons (pv 2) (pa_cons (pv 3) (pa_cons (pv 4) pa_nil))))))))))))), ?_⟩
    show (_ : TS) _ [some (.ref p), some (.int n), some (.ref q), some (.ref r), some (.int m), none] _
    try dsimp only [nk]
    have f1 := D.f1
    have z0 := D.s0
    walk_at "rd"
    refine y_apart D e e' h0 h1 h2 h3 h4 (fun z H1 s1 => ?_) (fun z H1 s1 => ?_)
    · walk_at "rd"
      exact k1 z _ s1
    · obtain ⟨m0, m1, k⟩ := k2 z
      walk_at "rd"
      refine x_ite (fun g => ?_) (fun g => ?_)
      · have mz : m = 0 := g
        have k' := k q _ s1
        unfold owC owI at k'
        rw [if_pos mz, if_pos mz] at k'
        walk_at "rd"
        refine x_tupT (s1 _ _ e) ?_
        exact k' (s1 _ _ e)
      · walk_at "rd"
        refine x_ite (fun g2 => ?_) (fun g2 => ?_)
        · have k' := k r _ s1
          unfold owC owI at k'
          rw [if_neg g, if_neg g, if_pos g2, if_pos g2] at k'
          walk_at "rd"
          refine x_tupT (s1 _ _ e') ?_
          exact k' (s1 _ _ e')
        · walk_at "rd"
          have ne : ¬ (c = d ∧ i = j) := by
            intro x
            unfold apI at m1
            rw [if_pos x] at m1
            omega
          obtain ⟨x1, x2⟩ := hang_no z ne
          refine y_amidst (D.same s1) (s1 _ _ e) (s1 _ _ e') h0 h1 h2 h3 h4 x1 x2 ne (by omega) (by omega) fun u H2 s2 e2 => ?_
          exact k u H2 (s1.trans s2) e2
theorem sc_ends : FnScope ["drum", "length", "face", "lowers", "uppers", "start", "lower", "upper", "by_lower", "by_upper"] ["drum", "length", "face"] (defScope s_ends) := ⟨rfl, rfl, rfl, by decide +kernel, rfl, by decide +kernel, by decide +kernel⟩
theorem ok_ends {P : Program} {w : World} {K : PySem.W.Frag} {mg : Str → Option Value} {base : Heap} (T : Txt K mg) : ∃ fd, FnOk P w K mg base CX0 10 (He.ga K "ends") fd ["drum", "length", "face"] (sp_ends K) ∧ Binds K fd ["drum", "length", "face"] [] ∧ FunD K d_ends.name d_ends.qual d_ends.params d_ends.body d_ends.scope (d_ends.dvs K) (d_ends.kws K) (He.fAd K d_ends.at_) fd := by
  obtain ⟨fd_apart, G_apart, b_apart, F_apart⟩ := ok_apart (P := P) (w := w) (base := base) T
  obtain ⟨fd_piece, G_piece, b_piece, F_piece⟩ := ok_piece (P := P) (w := w) (base := base) T
  obtain ⟨fd, F⟩ := T.f_ends
  refine ⟨fd, ?_, F.bindsN fun _ _ _ _ _ _ us hl => match us, hl with | [_, _, _], _ => rfl, F⟩
  refine F.ok (k := 9) sc_ends (fun vs H Q E h => ?_) (fun cdv A outer s H vs Q E hr h => ?_)
  · obtain ⟨p, f, s, n, q, c, i, rfl, _⟩ := h
    rfl
  · obtain ⟨p, f, s, n, q, c, i, rfl, d, e, h0, h1, h2, k⟩ := h
    refine ⟨_, PSs.nox (pss_cons (ps_asg (pe_call G_piece (hr.mono (by decide)) rfl T.g_piece T.k_piece b_piece .nil pass0 (pa_cons (pv 0) (pa_cons (pv 1) (pa_cons (pv 2) pa_nil)))) (pg_tup rfl (pgs_cons (pg_name (i := 3) sc_ends.nd rfl (Or.inl rfl)) (pgs_cons (pg_name (i := 4) sc_ends.nd rfl (Or.inl rfl)) pgs_nil))))
      (pss_cons (ps_if (PW.pt (pw_or (pt_cmpR cp_isN (pv 3) pe_non (nomark _)) (pw_or1 (pt_cmpR cp_isN (pv 4) pe_non (nomark _))))) (pss_one (ps_ret (pe_tup (pa_cons pe_int (pa_cons (pe_callTy cl_tuple (by rfl) T.z_tuple (by decide +kernel) (pa_cons (pv 2) pa_nil)) (pa_cons (pe_callTy cl_tuple (by rfl) T.z_tuple (by decide +kernel) (pa_cons (pv 2) pa_nil)) pa_nil)))))) pss_nil)
      (pss_cons (ps_set (i := 5) sc_ends.nd rfl (Or.inl rfl) (pe_tup (pa_cons (pe_ix ix_tup (pv 4) pe_int (fun _ _ => rfl)) (pa_cons pe_str pa_nil))))
      (pss_cons (ps_set (i := 6) sc_ends.nd rfl (Or.inl rfl) (pe_tup (pa_cons (pe_ix ix_tup (pv 3) pe_int (fun _ _ => rfl)) (pa_cons pe_str pa_nil))))
      (pss_cons (ps_set (i := 7) sc_ends.nd rfl (Or.inl rfl) (pe_tup (pa_cons (pe_ix ix_tup (pv 4) pe_int (fun _ _ => rfl)) (pa_cons pe_str pa_nil))))
      (pss_cons (ps_set (i := 8) sc_ends.nd rfl (Or.inl rfl) (pe_call G_apart (hr.mono (by decide)) rfl T.g_apart T.k_apart b_apart .nil pass0 (pa_cons (pv 0) (pa_cons (pv 1) (pa_cons (pv 5) (pa_cons (pv 6) pa_nil))))))
      (pss_cons (ps_set (i := 9) sc_ends.nd rfl (Or.inl rfl) (pe_call G_apart (hr.mono (by decide)) rfl T.g_apart T.k_apart b_apart .nil pass0 (pa_cons (pv 0) (pa_cons (pv 1) (pa_cons (pv 5) (pa_cons (pv 7) pa_nil))))))
      (pss_cons (ps_if (pt_cmpR op_gt (pv 9) (pv 8) (nomark _)) (pss_one (ps_ret (pe_tup (pa_cons (pv 9) (pa_cons (pv 5) (pa_cons (pv 7) pa_nil)))))) pss_nil)
      (pss_one (ps_ret (pe_tup (pa_cons (pv 8) (pa_cons (pv 5) (pa_cons (pv 6) pa_nil)))))))))))))), ?_⟩
    show (_ : TS) _ [some (.ref p), some (.int n), some (.ref q), none, none, none, none, none, none, none] _
    try dsimp only [nk]
    have f1 := d.f1
    have z0 := d.s0
    walk_at "rd"
    refine y_piece d e h0 h1 h2 fun q1 H1 v1 w1 s1 e1 a1 c1 => ?_
    by_cases z : gNo f s n c i
    · unfold pcL at a1
      unfold pcU at c1
      rw [if_pos z] at a1 c1
      unfold enM enS enE enSi enEi at k
      rw [if_pos z, if_pos z, if_pos z, if_pos z, if_pos z] at k
      cases i
      · obtain ⟨r1, rfl, er1⟩ := a1
        cases (show w1 = .non from c1)
        walk_at "rd"
        refine x_tupT (s1 _ _ e) ?_
        walk_at "rd"
        refine x_tupT (s1 _ _ e) ?_
        walk_at "rd"
        intro t ht
        exact k t q q _ (s1.trans (same_upd ht)) upd_same (same_upd ht _ _ (s1 _ _ e)) (same_upd ht _ _ (s1 _ _ e))
      · cases (show v1 = .non from a1)
        walk_at "rd"
        refine x_tupT (s1 _ _ e) ?_
        walk_at "rd"
        refine x_tupT (s1 _ _ e) ?_
        walk_at "rd"
        intro t ht
        exact k t q q _ (s1.trans (same_upd ht)) upd_same (same_upd ht _ _ (s1 _ _ e)) (same_upd ht _ _ (s1 _ _ e))
    · obtain ⟨U, L⟩ := hang_piece f1 z0 h0 h1 z
      obtain ⟨g0, g1, g2⟩ := gL_nn f1 z0 h0 h1 z
      obtain ⟨P0, P1, P2, P3, P4, P5, P6, P7, P8⟩ := piece_ends f1 z0 h0 h1 z
      obtain ⟨m0, x1, x2, b0, b1, b2, b3, b4, b5, b6, b7, b8, b9⟩ := piece_facts f1 z0 g0 g2
      obtain ⟨u0, u1, u2, u3, u4⟩ := U _ (Int.le_refl _) b1
      obtain ⟨v0, y1, v2, v3, v4⟩ := U _ b1 (Int.le_refl _)
      have nz : ¬ tOf f s (pLa f s n (gL f s c i)) = 0 := by have := tOf_nn f1 z0 g0; omega
      have hh := (ab_bnH f1 z0 v0 nz).1
      obtain ⟨l0, l1, l2, l3⟩ := L _ (by omega) (Int.le_refl _)
      have hSL : hang f s n (pFi f s (gL f s c i)) true (bnH f s (pLa f s n (gL f s c i))) false := ⟨u3.1.symm.trans l3.1, u3.2.symm.trans l3.2⟩
      have hSU : hang f s n (pFi f s (gL f s c i)) true (pLa f s n (gL f s c i)) true := ⟨u3.1.symm.trans v3.1, u3.2.symm.trans v3.2⟩
      unfold pcL at a1
      unfold pcU at c1
      rw [if_neg z] at a1 c1
      obtain ⟨r1, rfl, er1⟩ := a1
      obtain ⟨r2, rfl, er2⟩ := c1
      unfold enM enS enE enSi enEi at k
      rw [if_neg z, if_neg z, if_neg z, if_neg z, if_neg z] at k
      unfold enLo enUp at k
      clear U L u3 l3 v3 P0 P1 P2 P3 P4 P5 P6 P7 P8 m0 x1 x2 b0 b1 b2 b3 b4 b5 b6 b7 b8 b9 z g0 g1 g2 u2 v2 l2 u4 v4 nz hh
      generalize bnH f s (pLa f s n (gL f s c i)) = hi at *
      generalize pLa f s n (gL f s c i) = la at *
      generalize pFi f s (gL f s c i) = fi at *
      walk_at "rd"
      intro a ha
      have sa : Same H1 (upd H1 a (HO.tup [V.int fi, V.str "in"])) := same_upd ha
      have ea : Fc (upd H1 a (HO.tup [V.int fi, V.str "in"])) a fi true := upd_same
      generalize upd H1 a (HO.tup [V.int fi, V.str "in"]) = Ha at *
      have er1a := sa _ _ er1
      have er2a := sa _ _ er2
      walk_at "rd"
      intro b hb
      have sb : Same Ha (upd Ha b (HO.tup [V.int hi, V.str "out"])) := same_upd hb
      have eb : Fc (upd Ha b (HO.tup [V.int hi, V.str "out"])) b hi false := upd_same
      generalize upd Ha b (HO.tup [V.int hi, V.str "out"]) = Hb at *
      have er2b := sb _ _ er2a
      walk_at "rd"
      intro g hg
      have sg : Same Hb (upd Hb g (HO.tup [V.int la, V.str "in"])) := same_upd hg
      have eg : Fc (upd Hb g (HO.tup [V.int la, V.str "in"])) g la true := upd_same
      generalize upd Hb g (HO.tup [V.int la, V.str "in"]) = Hg at *
      have ea' := sg _ _ (sb _ _ ea)
      have eb' := sg _ _ eb
      have s1g := ((s1.trans sa).trans sb).trans sg
      have dg := d.same s1g
      walk_at "rd"
      refine y_apart dg ea' eb' u0 u1 l0 l1 h2 (fun x => absurd hSL x) (fun _ H2 s2 => ?_)
      walk_at "rd"
      refine y_apart (dg.same s2) (s2 _ _ ea') (s2 _ _ eg) u0 u1 v0 y1 h2 (fun x => absurd hSU x) (fun _ H3 s3 => ?_)
      have ea3 := s3 _ _ (s2 _ _ ea')
      have eb3 := s3 _ _ (s2 _ _ eb')
      have eg3 := s3 _ _ (s2 _ _ eg)
      have s13 := (s1g.trans s2).trans s3
      generalize apI f s fi true la true = up at *
      generalize apI f s fi true hi false = lw at *
      walk_at "rd"
      refine x_ite (fun x => ?_) (fun x => ?_)
      · rw [if_pos x, if_pos x, decide_eq_true x] at k
        walk_at "rd"
        intro t ht
        exact k t a g _ (s13.trans (same_upd ht)) upd_same (same_upd ht _ _ ea3) (same_upd ht _ _ eg3)
      · rw [if_neg x, if_neg x, decide_eq_false x] at k
        walk_at "rd"
        intro t ht
        exact k t a b _ (s13.trans (same_upd ht)) upd_same (same_upd ht _ _ ea3) (same_upd ht _ _ eb3)
theorem sc_amid : FnScope ["drum", "length", "one", "other", "third", "far", "near", "rest"] ["drum", "length", "one", "other", "third"] (defScope s_amid) := ⟨rfl, rfl, rfl, by decide +kernel, rfl, by decide +kernel, by decide +kernel⟩
theorem ok_amid {P : Program} {w : World} {K : PySem.W.Frag} {mg : Str → Option Value} {base : Heap} (T : Txt K mg) : ∃ fd, FnOk P w K mg base CX0 11 (He.ga K "amid") fd ["drum", "length", "one", "other", "third"] (sp_amid K) ∧ Binds K fd ["drum", "length", "one", "other", "third"] [] ∧ FunD K d_amid.name d_amid.qual d_amid.params d_amid.body d_amid.scope (d_amid.dvs K) (d_amid.kws K) (He.fAd K d_amid.at_) fd := by
  obtain ⟨fd_on_way, G_on_way, b_on_way, F_on_way⟩ := ok_on_way (P := P) (w := w) (base := base) T
  obtain ⟨fd_apart, G_apart, b_apart, F_apart⟩ := ok_apart (P := P) (w := w) (base := base) T
  obtain ⟨fd, F⟩ := T.f_amid
  refine ⟨fd, ?_, F.bindsN fun _ _ _ _ _ _ us hl => match us, hl with | [_, _, _, _, _], _ => rfl, F⟩
  refine F.ok (k := 10) sc_amid (fun vs H Q E h => ?_) (fun cdv A outer s H vs Q E hr h => ?_)
  · obtain ⟨p, f, s, n, q, c, i, r, d, j, t, g, kk, rfl, _⟩ := h
    rfl
  · obtain ⟨p, f, s, n, q, c, i, r, d, j, t, g, kk, rfl, D, e1, e2, e3, c0, c1, d0, d1, g0, g1, n1, k1, k2⟩ := h
    refine ⟨_, PSs.nox (pss_cons (ps_set (i := 5) sc_amid.nd rfl (Or.inl rfl) (pe_call G_apart (hr.mono (by decide)) rfl T.g_apart T.k_apart b_apart .nil pass0 (pa_cons (pv 0) (pa_cons (pv 1) (pa_cons (pv 2) (pa_cons (pv 3) pa_nil))))))
      (pss_cons (ps_set (i := 6) sc_amid.nd rfl (Or.inl rfl) (pe_call G_apart (hr.mono (by decide)) rfl T.g_apart T.k_apart b_apart .nil pass0 (pa_cons (pv 0) (pa_cons (pv 1) (pa_cons (pv 2) (pa_cons (pv 4) pa_nil))))))
      (pss_cons (ps_set (i := 7) sc_amid.nd rfl (Or.inl rfl) (pe_call G_apart (hr.mono (by decide)) rfl T.g_apart T.k_apart b_apart .nil pass0 (pa_cons (pv 0) (pa_cons (pv 1) (pa_cons (pv 3) (pa_cons (pv 4) pa_nil))))))
      (pss_cons (ps_if (PW.pt (pw_or (pt_cmpR cp_isN (pv 5) pe_non (nomark _)) (pw_or (pt_cmpR cp_isN (pv 6) pe_non (nomark _)) (pw_or1 (pt_cmpR cp_isN (pv 7) pe_non (nomark _)))))) (pss_one (ps_ret pe_non)) pss_nil)
      (pss_one (ps_ret (pe_call G_on_way (hr.mono (by decide)) rfl T.g_on_way T.k_on_way b_on_way .nil pass0 (pa_cons (pv 0) (pa_cons (pv 1) (pa_cons (pv 2) (pa_cons (pv 3) (pa_cons (pe_op op_fdivW (pe_op op_sub (pe_op op_add (pv 5) (pv 6)) (pv 7)) pe_int) pa_nil)))))))))))), ?_⟩
    show (_ : TS) _ [some (.ref p), some (.int n), some (.ref q), some (.ref r), some (.ref t), none, none, none] _
    try dsimp only [nk]
    have f1 := D.f1
    have z0 := D.s0
    walk_at "rd"
    refine y_apart D e1 e2 c0 c1 d0 d1 n1 (fun z H1 s1 => ?_) (fun z H1 s1 => ?_)
    · walk_at "rd"
      refine y_apart (D.same s1) (s1 _ _ e1) (s1 _ _ e3) c0 c1 g0 g1 n1 (fun z2 H2 s2 => ?_) (fun z2 H2 s2 => ?_) <;>
      · walk_at "rd"
        refine y_apart ((D.same s1).same s2) (s2 _ _ (s1 _ _ e2)) (s2 _ _ (s1 _ _ e3)) d0 d1 g0 g1 n1 (fun z3 H3 s3 => ?_) (fun z3 H3 s3 => ?_) <;>
        · walk_at "rd"
          exact k1 (fun x => z x.1) _ ((s1.trans s2).trans s3)
    · walk_at "rd"
      refine y_apart (D.same s1) (s1 _ _ e1) (s1 _ _ e3) c0 c1 g0 g1 n1 (fun z2 H2 s2 => ?_) (fun z2 H2 s2 => ?_)
      · walk_at "rd"
        refine y_apart ((D.same s1).same s2) (s2 _ _ (s1 _ _ e2)) (s2 _ _ (s1 _ _ e3)) d0 d1 g0 g1 n1 (fun z3 H3 s3 => ?_) (fun z3 H3 s3 => ?_) <;>
        · walk_at "rd"
          exact k1 (fun x => z2 x.2) _ ((s1.trans s2).trans s3)
      · have z3 : hang f s n d j g kk := ⟨z.1.symm.trans z2.1, z.2.symm.trans z2.2⟩
        obtain ⟨T1, T2⟩ := ap_tri f1 z0 c0 c1 d0 d1 g0 g1 z z2
        have P12 := ap_nn (f := f) (s := s) (c := c) (d := d) (i := i) (j := j)
        walk_at "rd"
        refine y_apart ((D.same s1).same s2) (s2 _ _ (s1 _ _ e2)) (s2 _ _ (s1 _ _ e3)) d0 d1 g0 g1 n1 (fun x => absurd z3 x) (fun _ H3 s3 => ?_)
        walk_at "rd"
        refine y_on_way (((D.same s1).same s2).same s3) (s3 _ _ (s2 _ _ (s1 _ _ e1))) (s3 _ _ (s2 _ _ (s1 _ _ e2))) c0 c1 d0 d1 n1 (fun x => absurd z x) (fun _ => ⟨by omega, by omega, fun u H4 s4 e4 => ?_⟩)
        exact k2 z z2 u H4 (((s1.trans s2).trans s3).trans s4) e4
theorem sc_middle : FnScope ["drum", "length", "face", "many", "one", "other", "found"] ["drum", "length", "face"] (defScope s_middle) := ⟨rfl, rfl, rfl, by decide +kernel, rfl, by decide +kernel, by decide +kernel⟩
theorem ok_middle {P : Program} {w : World} {K : PySem.W.Frag} {mg : Str → Option Value} {base : Heap} (T : Txt K mg) : ∃ fd, FnOk P w K mg base CX0 11 (He.ga K "middle") fd ["drum", "length", "face"] (sp_middle K) ∧ Binds K fd ["drum", "length", "face"] [] ∧ FunD K d_middle.name d_middle.qual d_middle.params d_middle.body d_middle.scope (d_middle.dvs K) (d_middle.kws K) (He.fAd K d_middle.at_) fd := by
  obtain ⟨fd_on_way, G_on_way, b_on_way, F_on_way⟩ := ok_on_way (P := P) (w := w) (base := base) T
  obtain ⟨fd_ends, G_ends, b_ends, F_ends⟩ := ok_ends (P := P) (w := w) (base := base) T
  obtain ⟨fd, F⟩ := T.f_middle
  refine ⟨fd, ?_, F.bindsN fun _ _ _ _ _ _ us hl => match us, hl with | [_, _, _], _ => rfl, F⟩
  refine F.ok (k := 10) sc_middle (fun vs H Q E h => ?_) (fun cdv A outer s H vs Q E hr h => ?_)
  · obtain ⟨p, f, s, n, q, c, i, rfl, _⟩ := h
    rfl
  · obtain ⟨p, f, s, n, q, c, i, rfl, d, e, h0, h1, h2, k1, k2⟩ := h
    refine ⟨_, PSs.nox (pss_cons (ps_asg (pe_call G_ends (hr.mono (by decide)) rfl T.g_ends T.k_ends b_ends .nil pass0 (pa_cons (pv 0) (pa_cons (pv 1) (pa_cons (pv 2) pa_nil)))) (pg_tup rfl (pgs_cons (pg_name (i := 3) sc_middle.nd rfl (Or.inl rfl)) (pgs_cons (pg_name (i := 4) sc_middle.nd rfl (Or.inl rfl)) (pgs_cons (pg_name (i := 5) sc_middle.nd rfl (Or.inl rfl)) pgs_nil)))))
      (pss_cons (ps_set (i := 6) sc_middle.nd rfl (Or.inl rfl) (pe_lst (pa_cons (pe_call G_on_way (hr.mono (by decide)) rfl T.g_on_way T.k_on_way b_on_way .nil pass0 (pa_cons (pv 0) (pa_cons (pv 1) (pa_cons (pv 4) (pa_cons (pv 5) (pa_cons (pe_op op_fdivW (pv 3) pe_int) pa_nil)))))) pa_nil)))
      (pss_cons (ps_if (pt_cmpR op_eq (pe_op op_modN (pv 3) pe_int) pe_int (nomark _)) (pss_one (ps_expr (pe_bm PySem.F.plainAttrs_list PySem.F.slot_list_append PySem.F.type_list_append mt_append (pv 6) (pa_cons (pe_call G_on_way (hr.mono (by decide)) rfl T.g_on_way T.k_on_way b_on_way .nil pass0 (pa_cons (pv 0) (pa_cons (pv 1) (pa_cons (pv 4) (pa_cons (pv 5) (pa_cons (pe_op op_add (pe_op op_fdivW (pv 3) pe_int) pe_int) pa_nil)))))) pa_nil)))) pss_nil)
      (pss_one (ps_ret (pe_callB (cr_sortedDt hr.units) (by rfl) T.z_sorted (by decide +kernel) (pa_cons (pv 6) pa_nil))))))), ?_⟩
    show (_ : TS) _ [some (.ref p), some (.int n), some (.ref q), none, none, none, none] _
    try dsimp only [nk]
    have f1 := d.f1
    have z0 := d.s0
    obtain ⟨S0, S1, E0', E1, hS, hE, hM⟩ := ends_ok (i := i) f1 z0 h0 h1
    have hh : hang f s n (enS f s n c i) (enSi f s n c i) (enE f s n c i) (enEi f s n c i) := ⟨hS.1.symm.trans hE.1, hS.2.symm.trans hE.2⟩
    have M0 : 0 ≤ enM f s n c i := by rw [hM]; exact ap_nn
    have MB := ap_bd f1 z0 S0 S1 E0' E1 hh
    rw [← hM] at MB
    have bM : Bd 700 (enM f s n c i) := Bd.of M0 (by omega)
    unfold mdLe at k2
    unfold mdC mdI at k1 k2
    walk_at "rd"
    refine y_ends d e h0 h1 h2 fun r u v H1 s1 er eu ev => ?_
    generalize enS f s n c i = S at *
    generalize enSi f s n c i = Si at *
    generalize enE f s n c i = En at *
    generalize enEi f s n c i = Ei at *
    generalize enM f s n c i = M at *
    have d1 := d.same s1
    walk_at "rd"
    refine y_on_way d1 eu ev S0 S1 E0' E1 h2 (fun x => absurd hh x) (fun _ => ⟨by omega, by omega, fun w H2 s2 ew => ?_⟩)
    have d2 := d1.same s2
    have eu2 := s2 _ _ eu
    have ev2 := s2 _ _ ev
    walk_at "rd"
    intro l hl
    walk_at "rd"
    rw [Int.fmod_eq_emod_of_nonneg M (show (0 : Int) ≤ 2 by decide)]
    refine x_ite (fun o => ?_) (fun o => ?_)
    · have sl : Same H2 (upd H2 l (HO.lst [V.ref w])) := same_upd hl
      have el : upd H2 l (HO.lst [V.ref w]) l = some (HO.lst [V.ref w]) := upd_same
      generalize upd H2 l (HO.lst [V.ref w]) = H3 at *
      have d3 := d2.same sl
      walk_at "rd"
      refine y_on_way d3 (sl _ _ eu2) (sl _ _ ev2) S0 S1 E0' E1 h2 (fun x => absurd hh x) (fun _ => ⟨by omega, by omega, fun w2 H4 s4 ew2 => ?_⟩)
      walk_at "rd"
      have el4 := s4 _ _ el
      refine x_append el4 (Nat.le_of_ble_eq_true rfl) ?_
      have ew4 := s4 _ _ (sl _ _ ew)
      have n1 : w ≠ l := ne_of ew4 el4 (by intro z; cases z)
      have n2 : w2 ≠ l := ne_of ew2 el4 (by intro z; cases z)
      have S5 : Same H1 (upd H4 l (HO.lst ([V.ref w] ++ [V.ref w2]))) := fun b o' eb => by
        rw [upd_ne (ne_of_none (s2 _ _ eb) hl)]
        exact s4 _ _ (sl _ _ (s2 _ _ eb))
      have F1 : Fc (upd H4 l (HO.lst ([V.ref w] ++ [V.ref w2]))) w _ _ := (upd_ne n1).trans ew4
      have F2 : Fc (upd H4 l (HO.lst ([V.ref w] ++ [V.ref w2]))) w2 _ _ := (upd_ne n2).trans ew2
      have EL : upd H4 l (HO.lst ([V.ref w] ++ [V.ref w2])) l = some (HO.lst [V.ref w, V.ref w2]) := upd_same
      generalize upd H4 l (HO.lst ([V.ref w] ++ [V.ref w2])) = H5 at *
      walk_at "rd"
      refine x_sort2 EL F1 F2 fun p' hp' => ?_
      exact k2 o p' w w2 _ ((s1.trans S5).trans (same_upd hp')) (none_of (s1.trans S5) hp') upd_same (same_upd hp' _ _ F1) (same_upd hp' _ _ F2)
    · walk_at "rd"
      refine x_sort1 upd_same (same_upd hl _ _ ew) fun p' hp' => ?_
      exact k1 o p' w _ (((s1.trans s2).trans (same_upd hl)).trans (same_upd hp')) (none_of ((s1.trans s2).trans (same_upd hl)) hp') upd_same (same_upd hp' _ _ (same_upd hl _ _ ew))
theorem sc__law_told : FnScope ["_law_drum_here", "_law_length", "_law_three", "_law_beats", "_law_face_here", "_law_one_here", "_law_other", "_law_found", "_law_there", "_law_far"] ["_law_drum_here", "_law_length", "_law_three", "_law_beats"] (defScope s__law_told) := ⟨rfl, rfl, rfl, by decide +kernel, rfl, by decide +kernel, by decide +kernel⟩
theorem ok__law_told {P : Program} {w : World} {K : PySem.W.Frag} {mg : Str → Option Value} {base : Heap} (T : Txt K mg) : ∃ fd, FnOk P w K mg base CX0 12 (He.ga K "_law_told") fd ["_law_drum_here", "_law_length", "_law_three", "_law_beats"] (sp__law_told K) ∧ Binds K fd ["_law_drum_here", "_law_length", "_law_three", "_law_beats"] [] ∧ FunD K d__law_told.name d__law_told.qual d__law_told.params d__law_told.body d__law_told.scope (d__law_told.dvs K) (d__law_told.kws K) (He.fAd K d__law_told.at_) fd := by
  obtain ⟨fd_on_way, G_on_way, b_on_way, F_on_way⟩ := ok_on_way (P := P) (w := w) (base := base) T
  obtain ⟨fd_apart, G_apart, b_apart, F_apart⟩ := ok_apart (P := P) (w := w) (base := base) T
  obtain ⟨fd_amid, G_amid, b_amid, F_amid⟩ := ok_amid (P := P) (w := w) (base := base) T
  obtain ⟨fd_middle, G_middle, b_middle, F_middle⟩ := ok_middle (P := P) (w := w) (base := base) T
  obtain ⟨fd_ends, G_ends, b_ends, F_ends⟩ := ok_ends (P := P) (w := w) (base := base) T
  obtain ⟨fd_reach, G_reach, b_reach, F_reach⟩ := ok_reach (P := P) (w := w) (base := base) T
  obtain ⟨fd_piece, G_piece, b_piece, F_piece⟩ := ok_piece (P := P) (w := w) (base := base) T
  obtain ⟨fd, F⟩ := T.f__law_told
  refine ⟨fd, ?_, F.bindsN fun _ _ _ _ _ _ us hl => match us, hl with | [_, _, _, _], _ => rfl, F⟩
  refine F.ok (k := 11) sc__law_told (fun vs H Q E h => ?_) (fun cdv A outer s H vs Q E hr h => ?_)
  · obtain ⟨p, L, q, r, t, f, s, n, c, d, g, B, i, j, k, rfl, _⟩ := h
    rfl
  · obtain ⟨p, L, q, r, t, f, s, n, c, d, g, B, i, j, k, rfl, D, n2, eL, e1, e2, e3, c0, c1, d0, d1, g0, g1, b0, kk⟩ := h
    refine ⟨_, PSs.nox (pss_cons (ps_asg (pv 2) (pg_tup rfl (pgs_cons (pg_name (i := 4) sc__law_told.nd rfl (Or.inl rfl)) (pgs_cons (pg_name (i := 5) sc__law_told.nd rfl (Or.inl rfl)) (pgs_cons (pg_name (i := 6) sc__law_told.nd rfl (Or.inl rfl)) pgs_nil)))))
      (pss_cons (ps_set (i := 7) sc__law_told.nd rfl (Or.inl rfl) (pe_lst (pa_cons (pe_call G_piece (hr.mono (by decide)) rfl T.g_piece T.k_piece b_piece .nil pass0 (pa_cons (pv 0) (pa_cons (pv 1) (pa_cons (pv 4) pa_nil)))) (pa_cons (pe_call G_reach (hr.mono (by decide)) rfl T.g_reach T.k_reach b_reach .nil pass0 (pa_cons (pv 0) (pa_cons (pv 1) (pa_cons (pv 4) (pa_cons (pv 3) pa_nil))))) (pa_cons (pe_ix ix_tup (pe_call G_ends (hr.mono (by decide)) rfl T.g_ends T.k_ends b_ends .nil pass0 (pa_cons (pv 0) (pa_cons (pv 1) (pa_cons (pv 4) pa_nil)))) pe_int (fun _ _ => rfl)) pa_nil)))))
      (pss_cons (ps_set (i := 7) sc__law_told.nd rfl (Or.inl rfl) (pe_op op_cat (pv 7) (pe_lst (pa_cons (pe_call G_middle (hr.mono (by decide)) rfl T.g_middle T.k_middle b_middle .nil pass0 (pa_cons (pv 0) (pa_cons (pv 1) (pa_cons (pv 4) pa_nil)))) (pa_cons (pe_call G_amid (hr.mono (by decide)) rfl T.g_amid T.k_amid b_amid .nil pass0 (pa_cons (pv 0) (pa_cons (pv 1) (pa_cons (pv 4) (pa_cons (pv 5) (pa_cons (pv 6) pa_nil)))))) pa_nil)))))
      (pss_cons (ps_for PassesOwn.never rfl (pi_tup (pe_tup (pa_cons (pv 5) (pa_cons (pv 6) pa_nil)))) (pg_name (i := 8) sc__law_told.nd rfl (Or.inl rfl)) (pss_cons (ps_set (i := 9) sc__law_told.nd rfl (Or.inl rfl) (pe_call G_apart (hr.mono (by decide)) rfl T.g_apart T.k_apart b_apart .nil pass0 (pa_cons (pv 0) (pa_cons (pv 1) (pa_cons (pv 4) (pa_cons (pv 8) pa_nil))))))
      (pss_cons (ps_expr (pe_bm PySem.F.plainAttrs_list PySem.F.slot_list_append PySem.F.type_list_append mt_append (pv 7) (pa_cons (pv 9) pa_nil)))
      (pss_one (ps_if (pt_cmpR cp_notN (pv 9) pe_non (nomark _)) (pss_one (ps_expr (pe_bm PySem.F.plainAttrs_list PySem.F.slot_list_append PySem.F.type_list_append mt_append (pv 7) (pa_cons (pe_call G_on_way (hr.mono (by decide)) rfl T.g_on_way T.k_on_way b_on_way .nil pass0 (pa_cons (pv 0) (pa_cons (pv 1) (pa_cons (pv 4) (pa_cons (pv 8) (pa_cons (pe_op op_fdivW (pv 9) pe_int) pa_nil)))))) pa_nil)))) pss_nil)))))
      (pss_one (ps_ret (pv 7))))))), ?_⟩
    show (_ : TS) _ [some (.ref p), some (.int n), some (.ref L), some (.int B), none, none, none, none, none, none] _
    try dsimp only [nk]
    walk_at "rd"
    refine y_piece D e1 c0 c1 n2 fun r1 H1 v1 w1 s1 er1 pv1 pw1 => ?_
    walk_at "rd"
    refine y_reach (D.same s1) (s1 _ _ e1) c0 c1 n2 b0 fun r2 H2 v2 w2 s2 er2 pv2 pw2 => ?_
    have s12 := s1.trans s2
    walk_at "rd"
    refine y_ends (D.same s12) (s12 _ _ e1) c0 c1 n2 fun r3 u3 v3 H3 s3 er3 _ _ => ?_
    have s13 := s12.trans s3
    walk_at "rd"
    intro l0 hl0
    have z0 : Same H3 (upd H3 l0 (.lst [V.ref r1, V.ref r2, V.int (enM f s n c i)])) := same_upd hl0
    have el0 : upd H3 l0 (.lst [V.ref r1, V.ref r2, V.int (enM f s n c i)]) l0 = some (.lst [V.ref r1, V.ref r2, V.int (enM f s n c i)]) := upd_same
    generalize upd H3 l0 (.lst [V.ref r1, V.ref r2, V.int (enM f s n c i)]) = H4 at *
    have s14 := s13.trans z0
    walk_at "rd"
    refine y_middleR (D.same s14) (s14 _ _ e1) c0 c1 n2 fun r4 H5 s5 m4 => ?_
    have s15 := s14.trans s5
    have el5 := s5 _ _ el0
    walk_at "rd"
    refine y_amidD (D.same s15) (s15 _ _ e1) (s15 _ _ e2) (s15 _ _ e3) c0 c1 d0 d1 g0 g1 n2 fun v5 H6 s6 a5 => ?_
    have s16 := s15.trans s6
    have el6 := s6 _ _ el5
    walk_at "rd"
    intro l1 hl1
    have z1 : Same H6 (upd H6 l1 (.lst [V.ref r4, v5])) := same_upd hl1
    have el1 : upd H6 l1 (.lst [V.ref r4, v5]) l1 = some (.lst [V.ref r4, v5]) := upd_same
    generalize upd H6 l1 (.lst [V.ref r4, v5]) = H7 at *
    have s17 := s16.trans z1
    have el7 := z1 _ _ el6
    have base : DpAll K H7 ([V.ref r1, V.ref r2, V.int (enM f s n c i)] ++ [V.ref r4, v5]) [.tuple [pdO (pcL f s n c i), pdO (pcU f s n c i)], .tuple [pdO (reL f s n c i B), pdO (reU f s n c i B)], .int (enM f s n c i), midD f s n c i, amD f s n c i d j g k] := by
      have y67 := z1
      have y57 := s6.trans y67
      have y37 := (z0.trans s5).trans y57
      have y27 := s3.trans y37
      have y17 := s2.trans y27
      exact .cons (dp_same y17 (.tup (.inl (.inl er1)) (.cons pv1.dp (.cons pw1.dp .nil)))) (.cons (dp_same y27 (.tup (.inl (.inl er2)) (.cons pv2.dp (.cons pw2.dp .nil)))) (.cons (.int _) (.cons (dp_same y57 m4.dp) (.cons (dp_same y67 a5) .nil))))
    have D := D.same s17
    have e1 := s17 _ _ e1
    have e2 := s17 _ _ e2
    have e3 := s17 _ _ e3
    refine x_cat el7 el1 (Nat.le_trans (Nat.le_of_ble_eq_true (m := 1000) rfl) (by decide)) ?_
    intro F hF
    clear er1 pv1 pw1 er2 pv2 pw2 er3 m4 a5 el0 el5 el6 el1
    have lz : ([V.ref r1, V.ref r2, V.int (enM f s n c i)] ++ [V.ref r4, v5]).length = 5 := rfl
    generalize ([V.ref r1, V.ref r2, V.int (enM f s n c i)] ++ [V.ref r4, v5]) = zs at *
    walk_at "rd"
    refine x_forTup ?_
    walk_at "rd"
    intro tp htp
    have nF : tp ≠ F := by
      rintro rfl
      rw [upd_same] at htp
      cases htp
    have bF : But F H7 (upd (upd H7 F (.lst zs)) tp (.tup [.ref r, .ref t])) := but_set.trans (But.of (same_upd htp))
    have eF : upd (upd H7 F (.lst zs)) tp (.tup [.ref r, .ref t]) F = some (.lst zs) := by
      rw [upd_ne (Ne.symm nF)]
      exact upd_same
    have eT : upd (upd H7 F (.lst zs)) tp (.tup [.ref r, .ref t]) tp = some (.tup [.ref r, .ref t]) := upd_same
    clear htp
    generalize upd (upd H7 F (.lst zs)) tp (.tup [.ref r, .ref t]) = H8 at *
    refine x_forT eT (fun m σ H' => ∃ (x8 x9 : Option V) (xs : List V), σ = [some (.ref p), some (.int n), some (.ref L), some (.int B), some (.ref q), some (.ref r), some (.ref t), some (.ref F), x8, x9] ∧ But F H7 H' ∧ H' F = some (.lst (zs ++ xs)) ∧ xs.length ≤ 2 * m ∧ Flat H' xs (flD f s n c i d j g k m)) ?_ ?_ ?_
    · exact ⟨none, none, [], rfl, bF, by rw [List.append_nil]; exact eF, Nat.le_refl _, .nil⟩
    · rintro m x σ' Hm hx ⟨x8, x9, xs, rfl, bm, em, lm, fm⟩ tm
      have cs : ∃ (u : Addr) (e : Int) (o : Bool), x = .ref u ∧ Fc H7 u e o ∧ 0 ≤ e ∧ e < n ∧ m ≤ 1 ∧ flD f s n c i d j g k (m + 1) = flD f s n c i d j g k m ++ farD f s n c i e o := by
        match m, hx with
        | 0, hx => exact ⟨r, d, j, (by simpa using hx.symm), e2, d0, d1, by decide, (by simp [flD])⟩
        | 1, hx => exact ⟨t, g, k, (by simpa using hx.symm), e3, g0, g1, by decide, (by simp [flD])⟩
        | m + 2, hx => simp at hx
      obtain ⟨u, e', o, rfl, eu, u0, u1, lm1, hf⟩ := cs
      have sm := bm.same hF
      walk_at "rd"
      refine y_apart (D.same sm) (sm _ _ e1) (sm _ _ eu) c0 c1 u0 u1 n2 (fun hg Ha sa => ?_) (fun hg Ha sa => ?_)
      · have ea := sa _ _ em
        have ta := sa _ _ tm
        walk_at "rd"
        refine x_append ea (by rw [List.length_append, lz]; omega) ?_
        walk_at "rd"
        refine ⟨⟨_, _, xs ++ [.non], rfl, (bm.trans (But.of sa)).trans but_set, (by rw [upd_same, List.append_assoc]), (by rw [List.length_append]; simp; omega), ?_⟩, (by rw [upd_ne nF]; exact ta)⟩
        rw [hf]
        unfold farD
        rw [if_neg hg]
        exact .non ((fm.same sa).set ea)
      · have ea := sa _ _ em
        have ta := sa _ _ tm
        have av := ap_nn (f := f) (s := s) (c := c) (i := i) (d := e') (j := o)
        walk_at "rd"
        refine x_append ea (by rw [List.length_append, lz]; omega) ?_
        have ba := (bm.trans (But.of sa)).trans (but_set (a := F) (H := Ha) (o := .lst ((zs ++ xs) ++ [V.int (apI f s c i e' o)])))
        have eb : upd Ha F (.lst ((zs ++ xs) ++ [V.int (apI f s c i e' o)])) F = some (.lst ((zs ++ xs) ++ [V.int (apI f s c i e' o)])) := upd_same
        have tb : upd Ha F (.lst ((zs ++ xs) ++ [V.int (apI f s c i e' o)])) tp = some (.tup [.ref r, .ref t]) := by rw [upd_ne nF]; exact ta
        have fb : Flat (upd Ha F (.lst ((zs ++ xs) ++ [V.int (apI f s c i e' o)]))) (xs ++ [.int (apI f s c i e' o)]) (flD f s n c i d j g k m ++ [.int (apI f s c i e' o)]) := .int _ ((fm.same sa).set ea)
        generalize upd Ha F (.lst ((zs ++ xs) ++ [V.int (apI f s c i e' o)])) = Hb at *
        have sb := ba.same hF
        walk_at "rd"
        refine y_on_way (D.same sb) (sb _ _ e1) (sb _ _ eu) c0 c1 u0 u1 n2 (fun x => absurd hg x) (fun _ => ⟨by omega, by omega, fun w Hc s3 ew => ?_⟩)
        have ec := s3 _ _ eb
        have tc := s3 _ _ tb
        walk_at "rd"
        refine x_append ec (by rw [List.length_append, List.length_append, lz]; simp; omega) ?_
        walk_at "rd"
        refine ⟨⟨_, _, (xs ++ [.int (apI f s c i e' o)]) ++ [.ref w], rfl, (ba.trans (But.of s3)).trans but_set, (by rw [upd_same]; simp [List.append_assoc]), (by rw [List.length_append, List.length_append]; simp; omega), ?_⟩, (by rw [upd_ne nF]; exact tc)⟩
        rw [hf]
        unfold farD
        rw [if_pos hg]
        have z := Flat.fc ((fb.same s3).set (zs := ((zs ++ xs) ++ [V.int (apI f s c i e' o)]) ++ [V.ref w]) ec) (show Fc (upd Hc F (.lst (((zs ++ xs) ++ [V.int (apI f s c i e' o)]) ++ [V.ref w]))) w _ _ from by
          have nw : w ≠ F := by
            rintro rfl
            unfold Fc at ew
            rw [ec] at ew
            cases ew
          unfold Fc at ew ⊢
          rw [upd_ne nw]
          exact ew)
        rw [show ∀ (A : List PyData) (x y : PyData), A ++ [x, y] = A ++ [x] ++ [y] from fun A x y => by simp]
        exact z
    · rintro σ' Hm ⟨x8, x9, xs, rfl, bm, em, lm, fm⟩
      walk_at "rd"
      exact kk F Hm _ (s17.trans (bm.same hF)) em (dpAll_app (dpAll_same (bm.same hF) base) fm.dp)
abbrev spLaw := sp_law
theorem sc_law : FnScope ["_law_script", "_law_cell", "_law_source", "_law_first", "_law_step", "_law_drum_here", "_law_roll_here", "_law_turn", "_law_places", "_law_length", "_law_face_here", "_law_whole", "_law_one_here", "_law_beats", "_law_here", "_law_stays", "_law_ends_of", "_law_other", "_law_three", "_law_longer", "_law_more"] ["_law_script"] (defScope s_law) := ⟨rfl, rfl, rfl, by decide +kernel, rfl, by decide +kernel, by decide +kernel⟩
theorem ok_law {P : Program} {w : World} {K : PySem.W.Frag} {mg : Str → Option Value} {base : Heap} (T : Txt K mg) {f : Addr} {fd : FuncData} (F : FunD K d_law.name d_law.qual d_law.params d_law.body d_law.scope (d_law.dvs K) (d_law.kws K) f fd) : FnOk P w K mg base CX0 13 f fd ["_law_script"] (spLaw K) := by
  obtain ⟨fd__law_cell_at, G__law_cell_at, b__law_cell_at, F__law_cell_at⟩ := ok__law_cell_at (P := P) (w := w) (base := base) T
  obtain ⟨fd__law_great, G__law_great, b__law_great, F__law_great⟩ := ok__law_great (P := P) (w := w) (base := base) T
  obtain ⟨fd__law_all_within, G__law_all_within, b__law_all_within, F__law_all_within⟩ := ok__law_all_within (P := P) (w := w) (base := base) T
  obtain ⟨fd_reach, G_reach, b_reach, F_reach⟩ := ok_reach (P := P) (w := w) (base := base) T
  obtain ⟨fd_piece, G_piece, b_piece, F_piece⟩ := ok_piece (P := P) (w := w) (base := base) T
  obtain ⟨fd__law_told, G__law_told, b__law_told, F__law_told⟩ := ok__law_told (P := P) (w := w) (base := base) T
  obtain ⟨fd_Drumu__initu_, G_Drumu__initu_, b_Drumu__initu_, F_Drumu__initu_⟩ := ok_Drumu__initu_ (P := P) (w := w) (base := base) T
  obtain ⟨fd_apart, G_apart, b_apart, F_apart⟩ := ok_apart (P := P) (w := w) (base := base) T
  obtain ⟨fd__law_beside, G__law_beside, b__law_beside, F__law_beside⟩ := ok__law_beside (P := P) (w := w) (base := base) T
  obtain ⟨fd__law_begins, G__law_begins, b__law_begins, F__law_begins⟩ := ok__law_begins (P := P) (w := w) (base := base) T
  obtain ⟨fd_Drum_where, G_Drum_where, b_Drum_where, F_Drum_where⟩ := ok_Drum_where (P := P) (w := w) (base := base) T
  obtain ⟨fd__law_one, G__law_one, b__law_one, F__law_one⟩ := ok__law_one (P := P) (w := w) (base := base) T
  obtain ⟨fd__law_drawn, G__law_drawn, b__law_drawn, F__law_drawn⟩ := ok__law_drawn (P := P) (w := w) (base := base) T
  obtain ⟨fd__law_face, G__law_face, b__law_face, F__law_face⟩ := ok__law_face (P := P) (w := w) (base := base) T
  obtain ⟨fd__law_roll, G__law_roll, b__law_roll, F__law_roll⟩ := ok__law_roll (P := P) (w := w) (base := base) T
  obtain ⟨fd__law_drum, G__law_drum, b__law_drum, F__law_drum⟩ := ok__law_drum (P := P) (w := w) (base := base) T
  obtain ⟨fd__law_source_of, G__law_source_of, b__law_source_of, F__law_source_of⟩ := ok__law_source_of (P := P) (w := w) (base := base) T
  refine F.ok (k := 12) sc_law (fun vs H Q E h => ?_) (fun cdv A outer s H vs Q E hr h => ?_)
  · obtain ⟨a, ns, rfl, _⟩ := h
    rfl
  · obtain ⟨a, ns, rfl, hS, hlen, k⟩ := h
    refine ⟨_, PSs.nox (pss_cons (ps_for PassesOwn.never rfl (pi_list (pe_op op_cat (pe_lst (pa_cons (pe_call G__law_cell_at (hr.mono (by decide)) rfl T.g__law_cell_at T.k__law_cell_at b__law_cell_at .nil pass0 (pa_cons (pv 0) (pa_cons pe_int pa_nil))) pa_nil)) (pe_slice sl_list (pv 0) (po_some pe_int) (po_some pe_int)))) (pg_name (i := 1) sc_law.nd rfl (Or.inl rfl)) (pss_cons (ps_set (i := 2) sc_law.nd rfl (Or.inl rfl) (pe_call G__law_source_of (hr.mono (by decide)) rfl T.g__law_source_of T.k__law_source_of b__law_source_of .nil pass0 (pa_cons (pv 1) pa_nil)))
      (pss_cons (ps_asg (pe_call G__law_drum (hr.mono (by decide)) rfl T.g__law_drum T.k__law_drum b__law_drum .nil pass0 (pa_cons (pv 2) pa_nil)) (pg_tup rfl (pgs_cons (pg_name (i := 3) sc_law.nd rfl (Or.inl rfl)) (pgs_cons (pg_name (i := 4) sc_law.nd rfl (Or.inl rfl)) pgs_nil))))
      (pss_cons (ps_set (i := 5) sc_law.nd rfl (Or.inl rfl) (pe_make T.mk_Drum G_Drumu__initu_ (hr.mono (by decide)) rfl T.g_Drum b_Drumu__initu_ .nil pass0 (pa_cons (pv 3) (pa_cons (pv 4) pa_nil))))
      (pss_cons (ps_set (i := 6) sc_law.nd rfl (Or.inl rfl) (pe_call G__law_roll (hr.mono (by decide)) rfl T.g__law_roll T.k__law_roll b__law_roll .nil pass0 (pa_cons (pv 2) (pa_cons (pv 3) (pa_cons (pv 4) pa_nil)))))
      (pss_cons (ps_asg (pv 6) (pg_tup rfl (pgs_cons (pg_name (i := 7) sc_law.nd rfl (Or.inl rfl)) (pgs_cons (pg_name (i := 8) sc_law.nd rfl (Or.inl rfl)) (pgs_cons (pg_name (i := 9) sc_law.nd rfl (Or.inl rfl)) pgs_nil)))))
      (pss_cons (ps_set (i := 10) sc_law.nd rfl (Or.inl rfl) (pe_call G__law_face (hr.mono (by decide)) rfl T.g__law_face T.k__law_face b__law_face .nil pass0 (pa_cons (pv 2) (pa_cons (pv 3) (pa_cons (pv 4) (pa_cons (pv 6) pa_nil))))))
      (pss_cons (ps_set (i := 11) sc_law.nd rfl (Or.inl rfl) (pe_call G_piece (hr.mono (by decide)) rfl T.g_piece T.k_piece b_piece .nil pass0 (pa_cons (pv 5) (pa_cons (pv 9) (pa_cons (pv 10) pa_nil)))))
      (pss_cons (ps_set (i := 12) sc_law.nd rfl (Or.inl rfl) (pv 10))
      (C8.pss_cut (ps_if (pt_cmpR (op_notInT (room65 hr)) pe_non (pv 11) (by with_unfolding_all rfl)) (pss_one (ps_set (i := 12) sc_law.nd rfl (Or.inl rfl) (pe_call G__law_drawn (hr.mono (by decide)) rfl T.g__law_drawn T.k__law_drawn b__law_drawn .nil pass0 (pa_cons (pv 2) (pa_cons (pe_ix ix_tup (pv 11) pe_int (fun _ _ => rfl)) (pa_cons (pe_ix ix_tup (pv 11) pe_int (fun _ _ => rfl)) pa_nil)))))) pss_nil)
      (pss_cons (ps_set (i := 13) sc_law.nd rfl (Or.inl rfl) (pe_call G__law_one (hr.mono (by decide)) rfl T.g__law_one T.k__law_one b__law_one .nil pass0 (pa_cons (pv 2) (pa_cons (pe_lst (pa_cons pe_int (pa_cons pe_int (pa_cons (pe_call G__law_great (hr.mono (by decide)) rfl T.g__law_great T.k__law_great b__law_great .nil pass0 (pa_cons (pv 2) (pa_cons (pe_pw (r := 1000000) ⟨by decide, by decide, by decide⟩ (by decide +kernel)) pa_nil))) (pa_cons (pe_call G__law_great (hr.mono (by decide)) rfl T.g__law_great T.k__law_great b__law_great .nil pass0 (pa_cons (pv 2) (pa_cons (pe_pw (r := 100000000000000000000000000) ⟨by decide, by decide, by decide⟩ (by decide +kernel)) pa_nil))) pa_nil))))) pa_nil))))
      (pss_cons (ps_set (i := 14) sc_law.nd rfl (Or.inl rfl) (pe_ix ix_tup (pe_meth (pv 5) T.cl_Drum T.m_Drum_where G_Drum_where (hr.mono (by decide)) b_Drum_where .nil pass0 (pa_cons (pe_ix ix_tup (pv 10) pe_int (fun _ _ => rfl)) pa_nil)) pe_int (fun _ _ => rfl)))
      (pss_cons (ps_set (i := 15) sc_law.nd rfl (Or.inl rfl) (pe_cmpR op_lt (pe_op op_add (pv 14) (pe_callTy cl_int (by rfl) T.z_int (by decide +kernel) (pa_cons (pe_cmpR op_eq (pe_ix ix_tup (pv 10) pe_int (fun _ _ => rfl)) pe_str (nomark _)) pa_nil))) (pv 7) (nomark _)))
      (pss_cons (ps_set (i := 16) sc_law.nd rfl (Or.inl rfl) (pe_call G__law_begins (hr.mono (by decide)) rfl T.g__law_begins T.k__law_begins b__law_begins .nil pass0 (pa_cons (pv 3) (pa_cons (pv 4) (pa_cons (pe_op op_add (pv 7) pe_int) pa_nil)))))
      (pss_cons (ps_set (i := 17) sc_law.nd rfl (Or.inl rfl) (pe_call G__law_beside (hr.mono (by decide)) rfl T.g__law_beside T.k__law_beside b__law_beside .nil pass0 (pa_cons (pv 2) (pa_cons (pv 3) (pa_cons (pv 4) (pa_cons (pv 10) pa_nil))))))
      (pss_cons (ps_set (i := 18) sc_law.nd rfl (Or.inl rfl) (pe_tup (pa_cons (pv 10) (pa_cons (pv 12) (pa_cons (pe_ix ix_list (pe_lst (pa_cons (pv 17) (pa_cons (pv 10) pa_nil))) (pe_callTy cl_int (by rfl) T.z_int (by decide +kernel) (pa_cons (pe_cmpR op_ge (pe_ix ix_tup (pv 17) pe_int (fun _ _ => rfl)) (pv 9) (nomark _)) pa_nil)) (fun _ _ => rfl)) pa_nil)))))
      (pss_cons (ps_if (pt_cmpR (op_neD hr.units) (pe_call G__law_told (hr.mono (by decide)) rfl T.g__law_told T.k__law_told b__law_told .nil pass0 (pa_cons (pv 5) (pa_cons (pv 9) (pa_cons (pv 18) (pa_cons (pv 13) pa_nil))))) (pe_call G__law_told (hr.mono (by decide)) rfl T.g__law_told T.k__law_told b__law_told .nil pass0 (pa_cons (pe_make T.mk_Drum G_Drumu__initu_ (hr.mono (by decide)) rfl T.g_Drum b_Drumu__initu_ .nil pass0 (pa_cons (pv 3) (pa_cons (pv 4) pa_nil))) (pa_cons (pv 9) (pa_cons (pv 18) (pa_cons (pv 13) pa_nil))))) (nomark _)) (pss_one (ps_ret pe_bl)) pss_nil)
      (pss_one (ps_for PassesOwn.never rfl (pi_list (pe_lst (pa_cons (pe_op op_add (pv 9) pe_int) (pa_cons (pv 16) (pa_cons (pe_op op_add (pe_op op_add (pv 16) pe_int) (pe_call G__law_great (hr.mono (by decide)) rfl T.g__law_great T.k__law_great b__law_great .nil pass0 (pa_cons (pv 2) (pa_cons (pe_op op_add (pv 3) (pe_op op_mulW (pe_op op_add (pv 7) pe_int) (pv 4))) pa_nil)))) pa_nil))))) (pg_name (i := 19) sc_law.nd rfl (Or.inl rfl)) (pss_one (ps_if (pt_cmpR op_ge (pv 19) (pv 9) (nomark _)) (pss_cons (ps_if (pt_cmpR op_ne (pe_call G_apart (hr.mono (by decide)) rfl T.g_apart T.k_apart b_apart .nil pass0 (pa_cons (pv 5) (pa_cons (pv 19) (pa_cons (pv 10) (pa_cons (pv 12) pa_nil))))) (pe_call G_apart (hr.mono (by decide)) rfl T.g_apart T.k_apart b_apart .nil pass0 (pa_cons (pv 5) (pa_cons (pv 9) (pa_cons (pv 10) (pa_cons (pv 12) pa_nil))))) (nomark _)) (pss_one (ps_ret pe_bl)) pss_nil)
      (pss_cons (ps_if (pt_cmpR (op_neD hr.units) (pe_call G__law_told (hr.mono (by decide)) rfl T.g__law_told T.k__law_told b__law_told .nil pass0 (pa_cons (pv 5) (pa_cons (pv 19) (pa_cons (pv 18) (pa_cons (pv 13) pa_nil))))) (pe_call G__law_told (hr.mono (by decide)) rfl T.g__law_told T.k__law_told b__law_told .nil pass0 (pa_cons (pe_make T.mk_Drum G_Drumu__initu_ (hr.mono (by decide)) rfl T.g_Drum b_Drumu__initu_ .nil pass0 (pa_cons (pv 3) (pa_cons (pv 4) pa_nil))) (pa_cons (pv 19) (pa_cons (pv 18) (pa_cons (pv 13) pa_nil))))) (nomark _)) (pss_one (ps_ret pe_bl)) pss_nil)
      (pss_cons (ps_set (i := 20) sc_law.nd rfl (Or.inl rfl) (pe_call G_piece (hr.mono (by decide)) rfl T.g_piece T.k_piece b_piece .nil pass0 (pa_cons (pv 5) (pa_cons (pv 19) (pa_cons (pv 10) pa_nil)))))
      (pss_cons (ps_if (PW.pt (pw_or (pt_not (pt_val (pe_call G__law_all_within (hr.mono (by decide)) rfl T.g__law_all_within T.k__law_all_within b__law_all_within .nil pass0 (pa_cons (pv 11) (pa_cons (pv 20) pa_nil))))) (pw_or1 (PW.pt (pw_and (pt_val (pv 15)) (pw_and1 (pt_cmpR (op_neD hr.units) (pv 20) (pv 11) (nomark _)))))))) (pss_one (ps_ret pe_bl)) pss_nil)
      (pss_one (ps_if (pt_not (pt_val (pe_call G__law_all_within (hr.mono (by decide)) rfl T.g__law_all_within T.k__law_all_within b__law_all_within .nil pass0 (pa_cons (pe_call G_reach (hr.mono (by decide)) rfl T.g_reach T.k_reach b_reach .nil pass0 (pa_cons (pv 5) (pa_cons (pv 9) (pa_cons (pv 10) (pa_cons (pv 13) pa_nil))))) (pa_cons (pe_call G_reach (hr.mono (by decide)) rfl T.g_reach T.k_reach b_reach .nil pass0 (pa_cons (pv 5) (pa_cons (pv 19) (pa_cons (pv 10) (pa_cons (pv 13) pa_nil))))) pa_nil))))) (pss_one (ps_ret pe_bl)) pss_nil)))))) pss_nil)))))))))))))))))))))
      (pss_one (ps_ret pe_bl))), ?_⟩
    show (_ : TS) _ [some (.ref a), none, none, none, none, none, none, none, none, none, none, none, none, none, none, none, none, none, none, none, none] _
    try dsimp only [nk]
    walk_at "rd"
    refine y_law_cell_at hS hlen (by decide) fun r0 => ?_
    walk_at "rd"
    intro l1 hl1
    walk_at "rd"
    refine x_slL ((same_upd hl1).seq hS) fun l2 hl2 => ?_
    refine x_cat (at_upd hl2 upd_same) upd_same (cells_len hlen) fun lp hlp => ?_
    walk_at "rd"
    refine x_forL upd_same (fun _ σ _ => ∃ v1 v2 v3 v4 v5 v6 v7 v8 v9 v10 v11 v12 v13 v14 v15 v16 v17 v18 v19 v20 : Option V, σ = [some (.ref a), v1, v2, v3, v4, v5, v6, v7, v8, v9, v10, v11, v12, v13, v14, v15, v16, v17, v18, v19, v20]) ⟨_, _, _, _, _, _, _, _, _, _, _, _, _, _, _, _, _, _, _, _, rfl⟩ ?_ ?_
    · rintro i x σ H hx ⟨v1, v2, v3, v4, v5, v6, v7, v8, v9, v10, v11, v12, v13, v14, v15, v16, v17, v18, v19, v20, rfl⟩ hL
      obtain ⟨z, rfl⟩ := cells_int (List.mem_of_getElem? hx)
      clear hx hl1 hl2 hlp
      generalize [V.int r0] ++ cutV (List.map V.int ns) (some 1) (some 6) = cells at *
      walk_at "rd"
      refine y_source_of fun q Hs hq ss src0 => ?_
      have hLs := ss _ _ hL
      have hne : lp ≠ q := ne_of_none hL hq
      walk_at "rd"
      refine y_law_drum (by walk_at "src") (by omega) fun pd Hd f s f1 f2 s1 s2 srcd bud ed => ?_
      walk_at "rd"
      refine x_mkP (by omega) (by omega) (by omega) (by omega) fun d1 Hd1 hd1 sd1 Dd1 => ?_
      walk_at "rd"
      refine y_roll (by walk_at "src") (by omega) f1 f2 s1 s2 fun rl Hr t l t0 t1 l0 l1 srcr bur er => ?_
      have bf := Dd1.bf ; have bs := Dd1.bs
      have bt : Bd 24 t := Bd.of (by omega) (by omega)
      have ts := mul_nn (show 0 ≤ t by omega) s1
      have bz : Bd 200 (f + t * s) := by walk_at "bdm"
      have bz1 := bz.lt
      have bb : Bd 400 (Bg f s t) := by unfold Bg; walk_at "bdm"
      have bb1 := bb.lt ; have bb0 := bg_ge f1 s1 (show 0 ≤ t by omega)
      walk_at "rd"
      have hne' : lp ≠ q := hne
      refine y_law_face (by walk_at "src") (by omega) f1 f2 s1 s2 t0 t1 l0 l1 (by walk_at "at") fun qf Hf c i c0 c1 srcf buf ef => ?_
      have D : Drm K Hf d1 f s := by walk_at "drm"
      have P : Hf lp = some (.lst cells) := by walk_at "at"
      have n1 : 1 ≤ Bg f s t + l := by omega
      have bb' : Bd 240 (Bg f s t) := by unfold Bg; walk_at "bdm"
      have bb2 := bb'.lt
      have n3 : Bg f s t + l < 2 ^ 245 := by omega
      have n2 : Bg f s t + l < 2 ^ 600 := by omega
      have bs1 : Bg f s (t + 1) = Bg f s t + (f + t * s) := bg_succ f s t
      have nE : Bg f s t + l ≤ Bg f s (t + 1) := by omega
      have nE2 : Bg f s (t + 1) < 2 ^ 245 := by omega
      have nT : Bg f s t < Bg f s t + l := by omega
      have sz : 1 ≤ f + (t + 1) * s := by have := mul_nn (show 0 ≤ t + 1 by omega) s1; omega
      have bz2 : Bd 240 (f + (t + 1) * s) := by walk_at "bdm"
      have bz3 := bz2.lt
      clear bz bb er ed bud bur buf srcd srcr
      generalize hn : Bg f s t + l = n at *
      walk_at "rd"
      refine y_piece D ef c0 c1 n2 fun W H1 v w s1' eW pv pw => ?_
      have D := D.same s1' ; have P := s1' _ _ P ; have S := srcf.same s1' ; have EF := s1' _ _ ef
      clear s1' srcf ef
      walk_at "rd"
      refine x_cut (fun σ' H' => (Drm K H' d1 f s ∧ H' lp = some (.lst cells) ∧ Src H' q 200 ∧ Fc H' qf c i ∧ H' W = some (.tup [v, w]) ∧ PairV H' v (pcL f s n c i) ∧ PairV H' w (pcU f s n c i)) ∧ ∃ (qo : Addr) (y : Int) (j : Bool) (x13 x14 x15 x16 x17 x18 x19 x20 : Option V), σ' = [some (.ref a), some (.int z), some (.ref q), some (.int f), some (.int s), some (.ref d1), some (.ref rl), some (.int t), some (.int l), some (.int n), some (.ref qf), some (.ref W), some (.ref qo), x13, x14, x15, x16, x17, x18, x19, x20] ∧ Fc H' qo y j ∧ 0 ≤ y ∧ y < n ∧ hang f s n c i y j) ?_ ?_
      · by_cases zz : gNo f s n c i
        · have NN : pcL f s n c i = none ∨ pcU f s n c i = none := by
            unfold pcL pcU
            rw [if_pos zz, if_pos zz]
            cases i <;> simp
          walk_at "rd"
          refine x_noneNot eW pv pw ?_
          walk_at "rd"
          try refine x_iteNF NN ?_
          walk_at "rd"
          exact ⟨⟨D, P, S.mono (by omega), EF, eW, pv, pw⟩, qf, c, i, _, _, _, _, _, _, _, _, rfl, EF, c0, c1, rfl, rfl⟩
        · obtain ⟨lo, hlo⟩ : ∃ lo, pLo f s (gL f s c i) = lo := ⟨_, rfl⟩
          obtain ⟨hi, hhi⟩ : ∃ hi, bnH f s (pLa f s n (gL f s c i)) = hi := ⟨_, rfl⟩
          obtain ⟨fi, hfi⟩ : ∃ fi, pFi f s (gL f s c i) = fi := ⟨_, rfl⟩
          obtain ⟨la, hla⟩ : ∃ la, pLa f s n (gL f s c i) = la := ⟨_, rfl⟩
          have hpL : pcL f s n c i = some (lo, hi) := by unfold pcL; rw [if_neg zz, hlo, hhi]
          have hpU : pcU f s n c i = some (fi, la) := by unfold pcU; rw [if_neg zz, hfi, hla]
          have F := pcf D.f1 D.s0 c0 c1 zz
          obtain ⟨HU, HL⟩ := hang_piece D.f1 D.s0 c0 c1 zz
          rw [hlo, hhi] at HL F
          rw [hfi, hla] at HU F
          have hb0 := F.b0 ; have hb1 := F.b1 ; have hb2 := F.b2 ; have hb3 := F.b3 ; have hb4 := F.b4 ; have hb5 := F.b5
          rw [hpL] at pv ⊢
          rw [hpU] at pw ⊢
          obtain ⟨ra, rfl, era⟩ := pv
          obtain ⟨rb, rfl, erb⟩ := pw
          walk_at "rd"
          refine x_noneNot eW (o := some (lo, hi)) (t := some (fi, la)) ⟨ra, rfl, era⟩ ⟨rb, rfl, erb⟩ ?_
          walk_at "rd"
          try refine x_iteNT (by simp) ?_
          walk_at "rd"
          refine y_law_drawn S (by omega) era erb (by omega) (by omega) (by omega) (by omega) (by omega) (by omega) fun qx Hg x j j0 j1 Sg bg ex => ?_
          obtain ⟨x0, x1, hx⟩ : 0 ≤ x ∧ x < n ∧ hang f s n c i x j := by
            cases j
            · obtain ⟨u1, u2⟩ := j0 rfl
              obtain ⟨h1, h2, h4, h3⟩ := HL x u1 u2
              exact ⟨h1, h2, h3⟩
            · obtain ⟨u1, u2⟩ := j1 rfl
              obtain ⟨h1, h2, h4, h3, _⟩ := HU x u1 u2
              exact ⟨h1, h2, h3⟩
          walk_at "rd"
          exact ⟨⟨Drm.but bg S D, at_but bg hne' P, Sg.mono (by omega), tup_but bg S EF, tup_but bg S eW, ⟨ra, rfl, tup_but bg S era⟩, ⟨rb, rfl, tup_but bg S erb⟩⟩, qx, x, j, _, _, _, _, _, _, _, _, rfl, ex, x0, x1, hx⟩
      clear D P S EF eW pv pw
      rintro σ' H2 ⟨⟨D, P, S, EF, eW, pv, pw⟩, qo, y, j, z0, z1, z2, z3, z4, z5, z6, z7, rfl, EO, y0, y1, hg⟩
      walk_at "rd"
      refine y_great S (by omega) (by omega) (by omega) fun g3 H3 g30 g31 S3 b3 => ?_
      walk_at "rd"
      refine y_great S3 (by omega) (by omega) (by omega) fun g4 H4 g40 g41 S4 b4 => ?_
      walk_at "rd"
      intro ps hps
      walk_at "rd"
      refine y_one (S4.upd hps) (by omega) upd_same (Src.neN S4 hps) (by walk_at "len") (by walk_at "len") fun vB H5 hvB S5 b5 => ?_
      obtain ⟨B, rfl, B0⟩ : ∃ B : Int, vB = .int B ∧ 0 ≤ B := by
        simp only [List.mem_cons, List.not_mem_nil, or_false] at hvB
        rcases hvB with rfl | rfl | rfl | rfl <;> exact ⟨_, rfl, by omega⟩
      have be := ((b3.trans b4).trans (But.of (same_upd hps))).trans b5
      have D := Drm.but be S D ; have P := at_but be hne' P ; have EF := tup_but be S EF ; have EO := tup_but be S EO ; have eW := tup_but be S eW ; have pv := pv.but be S ; have pw := pw.but be S
      clear hvB b3 b4 hps S3 S4 be
      walk_at "rd"
      refine y_where D c0 (by omega) fun qw H6 sw ew => ?_
      have D := D.same sw ; have P := sw _ _ P ; have EF := sw _ _ EF ; have EO := sw _ _ EO ; have eW := sw _ _ eW ; have pv := pv.same sw ; have pw := pw.same sw
      have S6 := S5.same sw
      walk_at "rd"
      refine x_rEqOut ?_
      walk_at "rd"
      refine y_law_beside S6 (by omega) f1 f2 s1 s2 EF c0 (by omega) fun qb H7 d' j' d0' S7 b7 eb => ?_
      have D := Drm.but b7 S6 D ; have P := at_but b7 hne' P ; have EF := tup_but b7 S6 EF ; have EO := tup_but b7 S6 EO ; have eW := tup_but b7 S6 eW ; have pv := pv.but b7 S6 ; have pw := pw.but b7 S6
      clear b7 sw ew S5 S6
      walk_at "rd"
      intro lq hlq
      walk_at "rd"
      obtain ⟨qz, g, k, hz, ez, g0, g1⟩ : ∃ (qz : Addr) (g : Int) (k : Bool), atI [V.ref qb, V.ref qf] (if decide (n ≤ d') = true then 1 else 0) = some (V.ref qz) ∧ Fc H7 qz g k ∧ 0 ≤ g ∧ g < n := by
        by_cases h : n ≤ d'
        · rw [decide_eq_true h]; exact ⟨qf, c, i, rfl, EF, c0, c1⟩
        · rw [decide_eq_false h]; exact ⟨qb, d', j', rfl, eb, d0', by omega⟩
      refine x_ixL (sql upd_same) hz ?_
      walk_at "rd"
      intro T3 hT3
      have s8 := (same_upd (o := HO.lst [V.ref qb, V.ref qf]) hlq).trans (same_upd (o := HO.tup [V.ref qf, V.ref qo, V.ref qz]) hT3)
      have eT : (upd (upd H7 lq (HO.lst [V.ref qb, V.ref qf])) T3 (HO.tup [V.ref qf, V.ref qo, V.ref qz]) : Hp) T3 = some (HO.tup [V.ref qf, V.ref qo, V.ref qz]) := upd_same
      clear hlq hT3
      generalize upd (upd H7 lq (HO.lst [V.ref qb, V.ref qf])) T3 (HO.tup [V.ref qf, V.ref qo, V.ref qz]) = H8 at *
      have D := D.same s8 ; have P := s8 _ _ P ; have EF := s8 _ _ EF ; have EO := s8 _ _ EO ; have eW := s8 _ _ eW ; have pv := pv.same s8 ; have pw := pw.same s8 ; have ez := s8 _ _ ez
      have S8 := S7.same s8
      clear s8 S7 eb hz
      walk_at "rd"
      refine y_law_told D n2 eT EF EO ez c0 c1 y0 y1 g0 g1 B0 fun F1 H9 xs1 s9 e9 a9 => ?_
      have D := D.same s9 ; have P := s9 _ _ P ; have EF := s9 _ _ EF ; have EO := s9 _ _ EO ; have eW := s9 _ _ eW ; have pv := pv.same s9 ; have pw := pw.same s9 ; have ez := s9 _ _ ez ; have eT := s9 _ _ eT
      have S9 := S8.same s9
      walk_at "rd"
      refine x_mkP (by omega) (by omega) (by omega) (by omega) fun d2 H10 hd2 s10 D2 => ?_
      have D := D.same s10 ; have P := s10 _ _ P ; have EF := s10 _ _ EF ; have EO := s10 _ _ EO ; have eW := s10 _ _ eW ; have pv := pv.same s10 ; have pw := pw.same s10 ; have ez := s10 _ _ ez ; have eT := s10 _ _ eT ; have e9 := s10 _ _ e9
      walk_at "rd"
      refine y_law_told D2 n2 eT EF EO ez c0 c1 y0 y1 g0 g1 B0 fun F2 H11 ys s11 e11 a11 => ?_
      have D := D.same s11 ; have P := s11 _ _ P ; have EF := s11 _ _ EF ; have EO := s11 _ _ EO ; have eW := s11 _ _ eW ; have pv := pv.same s11 ; have pw := pw.same s11 ; have ez := s11 _ _ ez ; have eT := s11 _ _ eT ; have e9 := s11 _ _ e9
      have S11 := (S9.same s10).same s11
      walk_at "rd"
      refine x_neTold e9 e11 (dpAll_same (s10.trans s11) a9) a11 ?_
      clear D2 s9 s10 s11 hd2 e9 e11 a9 a11 S8 S9
      walk_at "rd"
      refine y_great S11 (by omega) (by omega) (by omega) fun gg H12 gg0 gg1 S12 b12 => ?_
      have D := Drm.but b12 S11 D ; have P := at_but b12 hne' P ; have EF := tup_but b12 S11 EF ; have EO := tup_but b12 S11 EO ; have eW := tup_but b12 S11 eW ; have pv := pv.but b12 S11 ; have pw := pw.but b12 S11
      have ez := tup_but b12 S11 ez ; have eT := tup_but b12 S11 eT
      clear b12 S11
      walk_at "rd"
      intro ll hll
      have s13 := same_upd (o := HO.lst [V.int (n + 1), V.int (Bg f s (t + 1)), V.int (Bg f s (t + 1) + 1 + gg)]) hll
      have ell : (upd H12 ll (HO.lst [V.int (n + 1), V.int (Bg f s (t + 1)), V.int (Bg f s (t + 1) + 1 + gg)]) : Hp) ll = some (HO.lst [V.int (n + 1), V.int (Bg f s (t + 1)), V.int (Bg f s (t + 1) + 1 + gg)]) := upd_same
      clear hll
      generalize upd H12 ll (HO.lst [V.int (n + 1), V.int (Bg f s (t + 1)), V.int (Bg f s (t + 1) + 1 + gg)]) = H13 at *
      have D := D.same s13 ; have P := s13 _ _ P ; have EF := s13 _ _ EF ; have EO := s13 _ _ EO ; have eW := s13 _ _ eW ; have pv := pv.same s13 ; have pw := pw.same s13 ; have ez := s13 _ _ ez ; have eT := s13 _ _ eT
      clear s13 S12
      walk_at "rd"
      refine x_forL ell (fun _ σ H' => Same H13 H' ∧ ∃ x19 x20 : Option V, σ = [some (.ref a), some (.int z), some (.ref q), some (.int f), some (.int s), some (.ref d1), some (.ref rl), some (.int t), some (.int l), some (.int n), some (.ref qf), some (.ref W), some (.ref qo), some (.int B), some (.int (tOf f s c)), some (.bl (decide (tOf f s c + (if (!i) = true then 1 else 0) < t))), some (.int (Bg f s (t + 1))), some (.ref qb), some (.ref T3), x19, x20]) ⟨fun _ _ z => z, _, _, rfl⟩ ?_ ?_
      · rintro m x σ Hm hx ⟨sm, z0, z1, rfl⟩ ell
        obtain ⟨M, rfl, M0, M1⟩ : ∃ M : Int, x = .int M ∧ n ≤ M ∧ M < 2 ^ 600 := by
          have hx' := List.mem_of_getElem? hx
          simp only [List.mem_cons, List.not_mem_nil, or_false] at hx'
          rcases hx' with rfl | rfl | rfl <;> exact ⟨_, rfl, by omega, by omega⟩
        clear hx
        have D := D.same sm ; have P := sm _ _ P ; have EF := sm _ _ EF ; have EO := sm _ _ EO ; have eW := sm _ _ eW ; have pv := pv.same sm ; have pw := pw.same sm ; have ez := sm _ _ ez ; have eT := sm _ _ eT
        have HG := hang_longer f1 s1 c0 c1 y0 y1 M0 hg
        have cM : c < M := by omega
        have yM : y < M := by omega
        have gM : g < M := by omega
        walk_at "rd"
        refine y_apart D EF EO c0 cM y0 yM M1 (fun x => absurd HG x) (fun _ Ha sa => ?_)
        have D := D.same sa ; have P := sa _ _ P ; have EF := sa _ _ EF ; have EO := sa _ _ EO ; have eW := sa _ _ eW ; have pv := pv.same sa ; have pw := pw.same sa ; have ez := sa _ _ ez ; have eT := sa _ _ eT ; have ell := sa _ _ ell
        walk_at "rd"
        refine y_apart D EF EO c0 c1 y0 y1 n2 (fun x => absurd hg x) (fun _ Hb sb => ?_)
        have D := D.same sb ; have P := sb _ _ P ; have EF := sb _ _ EF ; have EO := sb _ _ EO ; have eW := sb _ _ eW ; have pv := pv.same sb ; have pw := pw.same sb ; have ez := sb _ _ ez ; have eT := sb _ _ eT ; have ell := sb _ _ ell
        walk_at "rd"
        try refine x_iteNF rfl ?_
        walk_at "rd"
        refine y_law_told D M1 eT EF EO ez c0 cM y0 yM g0 gM B0 fun F3 Hc xs2 sc ec ac => ?_
        have D := D.same sc ; have P := sc _ _ P ; have EF := sc _ _ EF ; have EO := sc _ _ EO ; have eW := sc _ _ eW ; have pv := pv.same sc ; have pw := pw.same sc ; have ez := sc _ _ ez ; have eT := sc _ _ eT ; have ell := sc _ _ ell
        walk_at "rd"
        refine x_mkP (by omega) (by omega) (by omega) (by omega) fun d3 Hd hd3 sd D3 => ?_
        have D := D.same sd ; have P := sd _ _ P ; have EF := sd _ _ EF ; have EO := sd _ _ EO ; have eW := sd _ _ eW ; have pv := pv.same sd ; have pw := pw.same sd ; have ez := sd _ _ ez ; have eT := sd _ _ eT ; have ell := sd _ _ ell ; have ec := sd _ _ ec
        walk_at "rd"
        refine y_law_told D3 M1 eT EF EO ez c0 cM y0 yM g0 gM B0 fun F4 He ys2 se ee ae => ?_
        have D := D.same se ; have P := se _ _ P ; have EF := se _ _ EF ; have EO := se _ _ EO ; have eW := se _ _ eW ; have pv := pv.same se ; have pw := pw.same se ; have ez := se _ _ ez ; have eT := se _ _ eT ; have ell := se _ _ ell ; have ec := se _ _ ec
        walk_at "rd"
        refine x_neTold ec ee (dpAll_same (sd.trans se) ac) ae ?_
        walk_at "rd"
        refine y_piece D EF c0 cM M1 fun R Hf v2 w2 sf eR pv2 pw2 => ?_
        have D := D.same sf ; have P := sf _ _ P ; have EF := sf _ _ EF ; have EO := sf _ _ EO ; have eW := sf _ _ eW ; have pv := pv.same sf ; have pw := pw.same sf ; have ez := sf _ _ ez ; have eT := sf _ _ eT ; have ell := sf _ _ ell
        have PL := pc_longer (i := i) f1 s1 c0 c1 M0
        walk_at "rd"
        refine y_law_all_within eW eR pv pw pv2 pw2 PL.1 PL.2 ?_
        walk_at "rd"
        refine x_ite (fun hst => ?_) (fun hst => ?_)
        · walk_at "rd"
          refine x_nePP eR eW pv2 pw2 pv pw ?_
          walk_at "rd"
          refine x_iteNF (pc_stays f1 s1 c0 c1 M0 nT (by cases i <;> simpa using hst)) ?_
          have RL := re_longer (i := i) f1 s1 c0 c1 M0 B0
          walk_at "rd"
          refine y_reach D EF c0 c1 n2 B0 fun R1 Hg v3 w3 sg e3 pv3 pw3 => ?_
          have e3' := e3
          walk_at "rd"
          refine y_reach (D.same sg) (sg _ _ EF) c0 cM M1 B0 fun R2 Hh v4 w4 sh e4 pv4 pw4 => ?_
          walk_at "rd"
          refine y_law_all_within (sh _ _ e3) e4 (pv3.same sh) (pw3.same sh) pv4 pw4 RL.1 RL.2 ?_
          walk_at "rd"
          exact ⟨⟨sm.trans (sa.trans (sb.trans (sc.trans (sd.trans (se.trans (sf.trans (sg.trans sh))))))), _, _, rfl⟩, sh _ _ (sg _ _ ell)⟩
        ·
          have RL := re_longer (i := i) f1 s1 c0 c1 M0 B0
          walk_at "rd"
          refine y_reach D EF c0 c1 n2 B0 fun R1 Hg v3 w3 sg e3 pv3 pw3 => ?_
          have e3' := e3
          walk_at "rd"
          refine y_reach (D.same sg) (sg _ _ EF) c0 cM M1 B0 fun R2 Hh v4 w4 sh e4 pv4 pw4 => ?_
          walk_at "rd"
          refine y_law_all_within (sh _ _ e3) e4 (pv3.same sh) (pw3.same sh) pv4 pw4 RL.1 RL.2 ?_
          walk_at "rd"
          exact ⟨⟨sm.trans (sa.trans (sb.trans (sc.trans (sd.trans (se.trans (sf.trans (sg.trans sh))))))), _, _, rfl⟩, sh _ _ (sg _ _ ell)⟩
      · rintro σ Hm ⟨sm, z0, z1, rfl⟩
        walk_at "rd"
        exact ⟨⟨_, _, _, _, _, _, _, _, _, _, _, _, _, _, _, _, _, _, _, _, rfl⟩, sm _ _ P⟩
    · rintro σ H ⟨v1, v2, v3, v4, v5, v6, v7, v8, v9, v10, v11, v12, v13, v14, v15, v16, v17, v18, v19, v20, rfl⟩
      walk_at "rd"
      exact k _
end Wm

open PySem PySem.W PySem.Calls PyProof.Rows
set_option maxRecDepth 100000 in
set_option maxHeartbeats 0 in
theorem PySem.Challenge.cw_wetmarks_k39_whole_longer_rolls_holds : PySem.Challenge.rw_wetmarks_k39_whole_longer_rolls.Holds := by
  w_on; o_law
  refine HandSHeadRun.head_imp (r := OpenLaw.row PySem.Challenge.rw_wetmarks_k39_whole_longer_rolls) (q := view (OpenLaw.row PySem.Challenge.rw_wetmarks_k39_whole_longer_rolls).prog [0, 59]) (H := Wm.hk) (ob := Wm.ob) (M := 6000) (loose := Wm.loose) (d := HandSHeadRun.topDef (OpenLaw.row PySem.Challenge.rw_wetmarks_k39_whole_longer_rolls).prog 59) (kwd := []) Wm.ob_eq
    Wm.run (by kernel_rfl) (by kernel_rfl) (by kernel_rfl) (by rfl) (by first | assumption | decide +kernel) (by decide +kernel) ⟨rfl, rfl, rfl, rfl, rfl, by decide +kernel⟩ ?hw ?hc
  case hw => w_witness2
  case hc =>
    refine L2.walk_ofE (l := PySem.Challenge.rw_wetmarks_k39_whole_longer_rolls) (n := 63) (k := 13) (x := "_law_script") (CX := L2.CX0) rfl (by decide) (by kernel_rfl) ⟨rfl, by decide, by decide⟩ ?F (fun _ _ _ _ z => z)
    intro w mg fa h Y G hmg0
    obtain ⟨K, KX, c, b⟩ := Y
    have hmg : mg ("law" : PySem.Str) = some (.ref fa) := by
      have e : (HandSHeadRun.topDef (OpenLaw.row PySem.Challenge.rw_wetmarks_k39_whole_longer_rolls).prog 59).name = ("law" : PySem.Str) := by kernel_rfl
      rw [← e]
      exact hmg0
    have T := Wm.txt KX G c b
    have e := hmg.symm.trans T.g_law
    cases e
    obtain ⟨fd, F⟩ := T.f_law
    have hb := L2.FunD.bindsA (ps := ["_law_script"]) F fun _ _ _ _ _ _ us hl => match us, hl with | [_], _ => rfl
    exact ⟨K, fd, Wm.spLaw K, KX, fun s v => hb s [v] rfl, fun H a ns hl _ hS => ⟨a, ns, rfl, hS, hl, fun _ => rfl⟩, fun base _ _ => Wm.ok_law T F⟩
#print axioms PySem.Challenge.cw_wetmarks_k39_whole_longer_rolls_holds
