import PyProof.Rows.All
import Wide.All
import OpenK.AllK
import Wide.FinOn
import HandS.ForMost
import HandS.IsInst
import HandS.RaiseMore
import HandS.Walk
import PySem.Challenge.RW_blockshanded_k01_names
set_option Elab.async false
set_option linter.all false
set_option maxRecDepth 100000
set_option maxHeartbeats 4000000
/-! what the law's own text shares with that of others: draws from a die -/
namespace LC
open PySem PySem.Spec PyProof.Rows L2
def topS (i : Nat) : Stmt := PySem.Challenge.pw_blockshanded_k01_names.main.body.getD i (.Pass ⟨0, 0, 0, 0⟩)
abbrev sis_name : Stmt := topS 2
abbrev s_law_numbers : Stmt := topS 4
abbrev s_law_cast : Stmt := topS 5
abbrev s_law_pick : Stmt := topS 6
abbrev s_law_is_word : Stmt := topS 7
abbrev s_law_odd_one : Stmt := topS 8
abbrev s_law_right : Stmt := topS 9
abbrev slaw : Stmt := topS 10
/-! ### own rules -/
section
variable {X : Cx}
def CPowW (i j : Int) : Prop := 0 ≤ j ∧ (Builtin.Int.intBits i : Int) * j ≤ 2 ^ 27
theorem op_powW : OpR X (binaryOp .Pow) (rI CPowW fun i j => .int (i ^ j.toNat)) := opI fun _ _ _ _ _ _ _ hc q => pow_int hc.1 hc.2 q
def reprB (b : Bool) : Str := if b then "True" else "False"
theorem call_repr_bl : CallR X (.builtin "repr") (fun xs H Q => ∃ b, xs = [.bl b] ∧ Q (.str (reprB b)) H) := by
  intro pins s σ H xs us Q I r h
  obtain ⟨b, rfl, q⟩ := h
  obtain ⟨u, rfl, t⟩ := vals1 r
  cases t
  exact PySem.P.repr_of_bool ⟨.str _, H, I.tok _, ⟨_, rfl⟩, q⟩
end
structure Cal (P : Program) (w : World) (K : PySem.W.Frag) (mg : Str → Option Value) (base : Heap) (k : Nat) (x : Str) (ps : List Str) (sp : Sp) : Prop where
  ex : ∃ (f : Addr) (fd : FuncData), FnOk P w K mg base CX0 k f fd ps sp ∧ mg x = some (.ref f) ∧ PySem.W.keepIn K (.ref f) = true ∧ Binds K fd ps []
theorem pe_own {X : Cx} {x : Str} {k : Nat} {ps : List Str} {sp : Sp} {e : Expr} {es : List Expr} {t : TA} {p pos : Pos} (C : Cal X.prog X.w X.K X.mg X.base k x ps sp) (hr : Room k X.A) (hg : Gl X x) (ha : PA X (e :: es) t) (hdb : (x == ("__debug__" : Str)) = false := by decide) (he : starEach (e :: es) X.env = (false, eval e X.env) :: starEach es X.env := by rfl) (hpl : (backTo pos (starEach es X.env)).any (·.1) = false := by rfl) :
    PE X (.Call (.Name x p) (e :: es) [] pos) (tCall sp [] E0 t) := by
  obtain ⟨f, fd, F, m, kp, b⟩ := C.ex
  exact pe_call F hr hg m kp b .nil pass0 ha hdb he hpl
/-! ### heaps -/
theorem same_upd {H : Hp} {p : Addr} {o : HO} (h : H p = none) : Same H (upd H p o) := fun b x e => by
  rw [upd_ne (ne_of_none e h)]
  exact e
def Die (H : Hp) (a : Addr) : Prop := ∃ x y z : Int, H a = some (.lst [.int x, .int y, .int z])
/-- all but a is as it was, and a is a die -/
def Go (a : Addr) (H H' : Hp) : Prop := (∀ b o, b ≠ a → H b = some o → H' b = some o) ∧ Die H' a
theorem Die.same {H H' : Hp} {a : Addr} (d : Die H a) (s : Same H H') : Die H' a := by
  obtain ⟨x, y, z, e⟩ := d
  exact ⟨x, y, z, s _ _ e⟩
theorem Go.of {H H' : Hp} {a : Addr} (d : Die H a) (s : Same H H') : Go a H H' := ⟨fun b o _ e => s b o e, d.same s⟩
theorem Go.trans {H H1 H2 : Hp} {a : Addr} (x : Go a H H1) (y : Go a H1 H2) : Go a H H2 := ⟨fun b o n e => y.1 b o n (x.1 b o n e), y.2⟩
theorem Go.set {H : Hp} {a : Addr} {x y z : Int} : Go a H (upd H a (.lst [.int x, .int y, .int z])) := ⟨fun b o n e => by rw [upd_ne n]; exact e, x, y, z, upd_same⟩
theorem Go.new {H : Hp} {a p : Addr} {o : HO} (d : Die H a) (h : H p = none) : Go a H (upd H p o) := .of d (same_upd h)
theorem Die.ne {H : Hp} {a p : Addr} (d : Die H a) (h : H p = none) : p ≠ a := fun e => by
  obtain ⟨x, y, z, q⟩ := d
  rw [← e, h] at q
  cases q
theorem Go.seq {K : PySem.W.Frag} {H H' : Hp} {a b : Addr} {xs : List V} (g : Go a H H') (n : b ≠ a) (h : SqL K H b xs) : SqL K H' b xs := by
  rcases h with (h | ⟨o, h⟩) | h
  · exact .inl (.inl (g.1 _ _ n h))
  · exact .inl (.inr ⟨o, g.1 _ _ n h⟩)
  · exact .inr h
def Asc (z : Str) : Prop := ∀ c ∈ z.cps.toList, c < 128
/-- the values that are drawn: none of them the die -/
inductive Knd (H : Hp) (a : Addr) : V → Prop
  | non : Knd H a .non
  | bl (b : Bool) : Knd H a (.bl b)
  | int (i : Int) : Knd H a (.int i)
  | str (z : Str) (h : z.length ≤ 30000) (h2 : Asc z) : Knd H a (.str z)
  | tup {p : Addr} {xs : List V} (n : p ≠ a) (e : H p = some (.tup xs)) : Knd H a (.ref p)
  | lst {p : Addr} {xs : List V} (n : p ≠ a) (e : H p = some (.lst xs)) : Knd H a (.ref p)
  | dct {p : Addr} {kvs : List (Key × V)} (n : p ≠ a) (e : H p = some (.dK kvs)) : Knd H a (.ref p)
theorem Knd.go {H H' : Hp} {a : Addr} {v : V} (k : Knd H a v) (g : Go a H H') : Knd H' a v := by
  cases k with
  | non => exact .non
  | bl b => exact .bl b
  | int i => exact .int i
  | str z h h2 => exact .str z h h2
  | tup n e => exact .tup n (g.1 _ _ n e)
  | lst n e => exact .lst n (g.1 _ _ n e)
  | dct n e => exact .dct n (g.1 _ _ n e)
def isS : V → Bool
  | .str _ => true
  | _ => false
theorem Knd.isi {K : PySem.W.Frag} {H : Hp} {a : Addr} {v : V} (k : Knd H a v) : ∃ t, TyX K H v t ∧ PySem.W.kitOne K t (.type "str") = some (isS v) := by
  cases k with
  | non => exact ⟨_, .base .non, kit_ty (by decide +kernel)⟩
  | bl b => exact ⟨_, .base (.bl b), kit_ty (show kitB "bool" "str" = some false by decide +kernel)⟩
  | int i => exact ⟨_, .base (.int i), kit_ty (show kitB "int" "str" = some false by decide +kernel)⟩
  | str z h h2 => exact ⟨_, .base (.str z), kit_ty (show kitB "str" "str" = some true by decide +kernel)⟩
  | tup n e => exact ⟨_, .base (.tup e), kit_ty (show kitB "tuple" "str" = some false by decide +kernel)⟩
  | lst n e => exact ⟨_, .base (.lst e), kit_ty (show kitB "list" "str" = some false by decide +kernel)⟩
  | dct n e => exact ⟨_, .base (.dK e), kit_ty (show kitB "dict" "str" = some false by decide +kernel)⟩
/-- a sign from a to z -/
def sgn (c : Nat) : Bool := !decide (([c] : List Nat) < ("a" : Str).cps.toList) && !decide (("z" : Str).cps.toList < [c])
def wordB (z : Str) : Bool := decide (1 ≤ (z.length : Int) ∧ (z.length : Int) ≤ 8) && z.cps.toList.all sgn
def nameV : V → Bool
  | .str z => wordB z
  | _ => false
/-- the facts of the module's names -/
structure Txt (mg : Str → Option Value) : Prop where
  b_isinstance : mg "isinstance" = none
  b_str : mg "str" = none
  b_len : mg "len" = none
  b_all : mg "all" = none
  b_int : mg "int" = none
  b_abs : mg "abs" = none
  b_max : mg "max" = none
  b_min : mg "min" = none
  b_range : mg "range" = none
  b_repr : mg "repr" = none
  g_MAX_LETTERS : ∃ t, mg "MAX_LETTERS" = some (.int 8 t)
/-! ### the promises -/
def spWord : Sp := fun vs H Q _ => ∃ (a : Addr) (v : V), vs = [v] ∧ Knd H a v ∧ ∀ H', Same H H' → Q (.bl (nameV v)) H'
def spNumbers (K : PySem.W.Frag) : Sp := fun vs H Q _ => ∃ (a : Addr) (ns : List Int) (i : Nat), vs = [.ref a, .int (i : Int)] ∧ SqL K H a (ns.map V.int) ∧ i ≤ 1000 ∧ ∀ H' p, Same H H' → H p = none → Die H' p → Q (.ref p) H'
def spCast : Sp := fun vs H Q _ => ∃ (a : Addr) (n : Int), vs = [.ref a, .int n] ∧ Die H a ∧ 0 < n ∧ n < 1000000 ∧ ∀ r H', 0 ≤ r → r < n → Go a H H' → (∀ b, b ≠ a → H' b = H b) → Q (.int r) H'
def spPick (K : PySem.W.Frag) : Sp := fun vs H Q _ => ∃ (a : Addr) (y : V), Die H a ∧ vs = [.ref a, y] ∧ ((∃ b xs, y = .ref b ∧ SqL K H b xs ∧ b ≠ a ∧ xs ≠ [] ∧ xs.length < 1000 ∧ ∀ v H', v ∈ xs → Go a H H' → (∀ b, b ≠ a → H' b = H b) → Q v H') ∨
  (∃ z : Str, y = .str z ∧ z.cps.toList ≠ [] ∧ z.length < 1000 ∧ ∀ c H', c ∈ z.cps.toList → Go a H H' → (∀ b, b ≠ a → H' b = H b) → Q (.str ⟨#[c]⟩) H'))
def spOdd : Sp := fun vs H Q _ => ∃ (a : Addr), vs = [.ref a] ∧ Die H a ∧ ∀ v H', Go a H H' → Knd H' a v → Q v H'
def spRight : Sp := fun vs H Q _ => ∃ (a : Addr), vs = [.ref a] ∧ Die H a ∧ ∀ H', Go a H H' → Q (.bl true) H'
def spLaw (K : PySem.W.Frag) : Sp := fun vs H Q _ => ∃ (a : Addr) (ns : List Int), vs = [.ref a] ∧ SqL K H a (ns.map V.int) ∧ ns.length ≤ 63 ∧ ∀ H', Q (.bl true) H'
end LC

set_option Elab.async false
set_option linter.all false
set_option maxRecDepth 100000
set_option maxHeartbeats 4000000
namespace LC
open PySem PySem.Spec PyProof.Rows L2
section
variable {P : Program} {w : World} {K : PySem.W.Frag} {mg : Str → Option Value} {base : Heap}
abbrev N_law_cast : List Str := ["_law_die", "_law_total", "_law_found", "_law_one", "_law_two"]
theorem sc_cast : FnScope N_law_cast ["_law_die", "_law_total"] (defScope s_law_cast) := ⟨rfl, rfl, rfl, by decide +kernel, rfl, by decide +kernel, by decide +kernel⟩
theorem ok_cast {f : Addr} {fd : FuncData} (F : Fun K "_law_cast" "_law_cast" s_law_cast f fd) (T : Txt mg) : FnOk P w K mg base CX0 1 f fd ["_law_die", "_law_total"] spCast := by
  have nd := sc_cast.nd
  refine F.ok sc_cast (fun vs H Q E h => ?_) (fun cdv A outer s H vs Q E hr h => ?_)
  · obtain ⟨a, n, rfl, _⟩ := h
    rfl
  · obtain ⟨a, n, rfl, ⟨x, y, z, hd⟩, n0, n1, q⟩ := h
    refine ⟨_, (pss_cons (ps_if (pt_cmpR op_gt (pe_ix ix_list (pv 0) pe_int (fun _ _ => rfl)) pe_int (nomark _))
  (pss_cons (ps_set (i := 2) nd rfl (Or.inl rfl) (pe_op op_mod (pe_callTy call_int1 (by rfl) T.b_int (by decide +kernel) (pa_cons (pe_ix ix_list (pv 0) pe_int (fun _ _ => rfl)) pa_nil)) (pv 1)))
  (pss_cons (ps_asg (pe_op op_fdiv (pe_ix ix_list (pv 0) pe_int (fun _ _ => rfl)) (pv 1)) (pg_sub (pv 0) pe_int set_list))
  (pss_one (ps_ret (pv 2)))))
  pss_nil)
  (pss_cons (ps_asg (pe_op op_add (pe_ix ix_list (pv 0) pe_int (fun _ _ => rfl)) pe_int) (pg_sub (pv 0) pe_int set_list))
  (pss_cons (ps_set (i := 3) nd rfl (Or.inl rfl) (pe_op op_mod (pe_callTy call_int1 (by rfl) T.b_int (by decide +kernel) (pa_cons (pe_op op_add (pe_ix ix_list (pv 0) pe_int (fun _ _ => rfl)) (pe_op op_mul pe_int (pe_ix ix_list (pv 0) pe_int (fun _ _ => rfl)))) pa_nil)) pe_int))
  (pss_cons (ps_set (i := 4) nd rfl (Or.inl rfl) (pe_op op_add (pe_op op_mul (pe_op op_mod (pe_callTy call_int1 (by rfl) T.b_int (by decide +kernel) (pa_cons (pe_op op_mul (pv 3) (pv 3)) pa_nil)) pe_int) (pv 3)) (pe_op op_mul pe_int (pe_ix ix_list (pv 0) pe_int (fun _ _ => rfl)))))
  (pss_one (ps_ret (pe_op op_mod (pe_callTy call_int1 (by rfl) T.b_int (by decide +kernel) (pa_cons (pe_op op_fdiv (pe_op op_mod (pe_callTy call_int1 (by rfl) T.b_int (by decide +kernel) (pa_cons (pe_op op_add (pv 4) (pe_ix ix_list (pv 0) pe_int (fun _ _ => rfl))) pa_nil)) pe_int) pe_int) pa_nil)) (pv 1)))))))), ?_⟩
    have sq : SqL K H a [.int x, .int y, .int z] := .inl (.inl hd)
    have a0 : ∀ {p q r : V}, atI [p, q, r] 0 = some p := atI_nat (j := 0) rfl
    have a1 : ∀ {p q r : V}, atI [p, q, r] 1 = some q := atI_nat (j := 1) rfl
    have a2 : ∀ {p q r : V}, atI [p, q, r] 2 = some r := atI_nat (j := 2) rfl
    -- die[0] > 0
    refine ⟨_, rfl, a, _, 0, _, rfl, rfl, sq, a0, _, _, rfl, rfl, _, rfl, ite2 (fun _ => ?_) (fun _ => ?_)⟩
    · refine ⟨_, rfl, a, _, 0, _, rfl, rfl, sq, a0, .inl ⟨_, rfl, ?_⟩⟩
      refine ⟨_, rfl, _, _, rfl, rfl, n0, ?_⟩
      refine ⟨_, rfl, a, _, 0, _, rfl, rfl, sq, a0, _, rfl, _, _, rfl, rfl, ⟨n0, by omega⟩, ?_⟩
      refine ⟨_, rfl, a, _, 0, 0, rfl, rfl, hd, rfl, ?_⟩
      refine ⟨_, rfl, ?_⟩
      exact q _ _ (Int.emod_nonneg _ (by omega)) (Int.emod_lt_of_pos _ n0) Go.set (fun b hb => upd_ne hb)
    · refine ⟨_, rfl, a, _, 2, _, rfl, rfl, sq, a2, _, _, rfl, rfl, _, rfl, a, _, 2, 2, rfl, rfl, hd, rfl, ?_⟩
      have sq2 : SqL K (upd H a (.lst [.int x, .int y, .int (z + 1)])) a [.int x, .int y, .int (z + 1)] := .inl (.inl upd_same)
      refine ⟨_, rfl, a, _, 1, _, rfl, rfl, sq2, a1, _, rfl, a, _, 2, _, rfl, rfl, sq2, a2, _, _, rfl, rfl, .inl (by decide), _, _, rfl, rfl, .inl ⟨_, rfl, ?_⟩⟩
      refine ⟨_, _, rfl, rfl, by show (0:Int) < 2305843009213693879; decide, ?_⟩
      have b1 : (0:Int) ≤ (y + 681463489 * (z + 1)) % 2305843009213693879 := Int.emod_nonneg _ (by decide)
      have b2 : (y + 681463489 * (z + 1)) % 2305843009213693879 < 2305843009213693879 := Int.emod_lt_of_pos _ (by decide)
      generalize (y + 681463489 * (z + 1)) % 2305843009213693879 = o at b1 b2 ⊢
      refine ⟨_, rfl, _, rfl, _, _, rfl, rfl, .inl ⟨by omega, by omega⟩, .inl ⟨_, rfl, ?_⟩⟩
      refine ⟨_, _, rfl, rfl, by show (0:Int) < 1152921504606846739; decide, ?_⟩
      refine ⟨_, rfl, _, _, rfl, rfl, .inr ⟨by omega, by omega⟩, ?_⟩
      refine ⟨_, rfl, a, _, 2, _, rfl, rfl, sq2, a2, _, _, rfl, rfl, .inl (by decide), ?_⟩
      refine ⟨_, _, rfl, rfl, ?_⟩
      refine ⟨_, rfl, _, rfl, a, _, 1, _, rfl, rfl, sq2, a1, _, _, rfl, rfl, .inl ⟨_, rfl, ?_⟩⟩
      refine ⟨_, _, rfl, rfl, by show (0:Int) < 8796093022141; decide, ?_⟩
      refine ⟨_, _, rfl, rfl, by constructor <;> decide, .inl ⟨_, rfl, ?_⟩⟩
      refine ⟨_, rfl, _, _, rfl, rfl, n0, ?_⟩
      exact q _ _ (Int.emod_nonneg _ (by omega)) (Int.emod_lt_of_pos _ n0) Go.set (fun b hb => upd_ne hb)
end
end LC

set_option Elab.async false
set_option linter.all false
set_option maxRecDepth 100000
set_option maxHeartbeats 4000000
namespace LC
open PySem PySem.Spec PyProof.Rows L2
section
variable {P : Program} {w : World} {K : PySem.W.Frag} {mg : Str → Option Value} {base : Heap}
abbrev N_law_numbers : List Str := ["_law_script", "_law_at", "_law_cell", "_law_whole", "_law_mixed"]
theorem sc_numbers : FnScope N_law_numbers ["_law_script", "_law_at"] (defScope s_law_numbers) := ⟨rfl, rfl, rfl, by decide +kernel, rfl, by decide +kernel, by decide +kernel⟩
theorem ok_numbers {f : Addr} {fd : FuncData} (F : Fun K "_law_numbers" "_law_numbers" s_law_numbers f fd) (T : Txt mg) : FnOk P w K mg base CX0 1 f fd ["_law_script", "_law_at"] (spNumbers K) := by
  have nd := sc_numbers.nd
  refine F.ok sc_numbers (fun vs H Q E h => ?_) (fun cdv A outer s H vs Q E hr h => ?_)
  · obtain ⟨a, n, i, rfl, _⟩ := h
    rfl
  · obtain ⟨a, ns, i, rfl, sq, hi, q⟩ := h
    refine ⟨_, (pss_cons (ps_set (i := 2) nd rfl (Or.inl rfl) (pe_ifExp (pt_cmpR op_lt (pv 1) (pe_callB call_len (by rfl) T.b_len PySem.boot_len (pa_cons (pv 0) pa_nil)) (nomark _)) (pe_ix ix_list (pv 0) (pv 1) (fun _ _ => rfl)) (pe_op op_add (pe_op op_mul pe_int (pv 1)) pe_int)))
  (pss_cons (ps_set (i := 3) nd rfl (Or.inl rfl) (pe_op op_mod (pe_callTy call_int1 (by rfl) T.b_int (by decide +kernel) (pa_cons (pe_callB call_abs (by rfl) T.b_abs (by decide +kernel) (pa_cons (pv 2) pa_nil)) pa_nil)) (pe_op op_powW (pe_op op_pow pe_int pe_int) pe_int)))
  (pss_cons (ps_set (i := 4) nd rfl (Or.inl rfl) (pe_op op_add (pe_op op_add (pe_op op_add (pe_op op_mul (pv 3) pe_int) (pe_op op_mul pe_int (pv 1))) (pe_op op_mul pe_int (pe_callTy call_int1 (by rfl) T.b_int (by decide +kernel) (pa_cons (pe_cmpR op_lt (pv 2) pe_int (nomark _)) pa_nil)))) pe_int))
  (pss_one (ps_ret (pe_lst (pa_cons (pe_callB (call_max2 rfl) (by rfl) T.b_max (by decide +kernel) (pa_cons pe_int (pa_cons (pe_op op_sub (pv 3) (pe_op op_pow pe_int pe_int)) pa_nil))) (pa_cons (pe_op op_mod (pe_callTy call_int1 (by rfl) T.b_int (by decide +kernel) (pa_cons (pv 4) pa_nil)) pe_int) (pa_cons pe_int pa_nil))))))))), ?_⟩
    -- the cell
    refine ⟨_, rfl, _, rfl, _, _, rfl, .inl ⟨_, sq, rfl⟩, _, _, rfl, rfl, _, rfl, ite2 (fun e => ?A) (fun _ => ?B)⟩
    case' A =>
      have hl : i < ns.length := by
        have e1 := of_decide_eq_true e
        rw [List.length_map] at e1
        omega
      have g : (ns.map V.int)[i]? = some (.int ns[i]) := by
        rw [List.getElem?_map, List.getElem?_eq_getElem hl]
        rfl
      refine ⟨_, rfl, _, rfl, a, _, (i : Int), _, rfl, rfl, sq, atI_nat g, ?_⟩
      generalize ns[i] = c
    case' B =>
      refine ⟨_, rfl, _, _, rfl, rfl, .inl ⟨by decide, by decide⟩, _, _, rfl, rfl, ?_⟩
      generalize (73 : Int) * (i : Int) + 41 = c
    all_goals
      refine ⟨_, rfl, _, rfl, .inl ⟨_, rfl, ?_⟩⟩
      generalize (if c < 0 then -c else c) = c1
      refine ⟨_, _, rfl, rfl, ⟨by decide, by decide, by decide⟩, _, _, rfl, rfl, ⟨by decide, by decide +kernel⟩, ?_⟩
      refine ⟨_, _, rfl, rfl, Int.pow_pos (Int.pow_pos (by decide)), ?_⟩
      generalize c1 % _ = c2
      refine ⟨_, rfl, _, _, rfl, rfl, .inr ⟨by decide, by decide⟩, ?_⟩
      refine ⟨_, rfl, _, _, rfl, rfl, .inl ⟨by decide, by decide⟩, ?_⟩
      refine ⟨_, _, rfl, rfl, ?_⟩
      refine ⟨_, rfl, _, _, rfl, rfl, .inr ⟨_, rfl, ?_⟩⟩
      refine ⟨_, _, rfl, rfl, .inl ⟨by decide, by decide⟩, _, _, rfl, rfl, _, _, rfl, rfl, ?_⟩
      refine ⟨_, rfl, _, _, rfl, rfl, ⟨by decide, by decide, by decide⟩, ?_⟩
      refine ⟨_, _, rfl, rfl, _, _, rfl, ?_⟩
      refine ⟨_, rfl, .inl ⟨_, rfl, ?_⟩⟩
      refine ⟨_, _, rfl, rfl, (by show (0:Int) < 1152921504606846931; decide), ?_⟩
      refine ⟨(by show 3 ≤ sizeLine; decide), fun p hp => q _ p (same_upd hp) hp ⟨_, _, _, upd_same⟩⟩
end
end LC

set_option Elab.async false
set_option linter.all false
set_option maxRecDepth 100000
set_option maxHeartbeats 4000000
namespace LC
open PySem PySem.Spec PyProof.Rows L2
section
variable {P : Program} {w : World} {K : PySem.W.Frag} {mg : Str → Option Value} {base : Heap}
abbrev N_law_pick : List Str := ["_law_die", "_law_items"]
theorem sc_pick : FnScope N_law_pick ["_law_die", "_law_items"] (defScope s_law_pick) := ⟨rfl, rfl, rfl, by decide +kernel, rfl, by decide +kernel, by decide +kernel⟩
theorem ok_pick {f : Addr} {fd : FuncData} (F : Fun K "_law_pick" "_law_pick" s_law_pick f fd) (T : Txt mg) (C : Cal P w K mg base 1 "_law_cast" ["_law_die", "_law_total"] spCast) : FnOk P w K mg base CX0 2 f fd ["_law_die", "_law_items"] (spPick K) := by
  have nd := sc_pick.nd
  refine F.ok sc_pick (fun vs H Q E h => ?_) (fun cdv A outer s H vs Q E hr h => ?_)
  · obtain ⟨a, y, _, rfl, _⟩ := h
    rfl
  · obtain ⟨a, y, d, rfl, q⟩ := h
    refine ⟨_, (pss_one (ps_ret (pe_ix ix_seq (pv 1) (pe_own C (hr.mono (by decide)) (by rfl) (pa_cons (pv 0) (pa_cons (pe_callB call_len (by rfl) T.b_len PySem.boot_len (pa_cons (pv 1) pa_nil)) pa_nil))) (fun _ _ => rfl)))), ?_⟩
    rcases q with ⟨b, xs, rfl, sq, nb, hne, hlen, q⟩ | ⟨z, rfl, hne, hlen, q⟩
    · have hl : 0 < xs.length := List.length_pos_iff.mpr hne
      refine ⟨_, rfl, _, rfl, _, rfl, _, _, rfl, .inl ⟨_, sq, rfl⟩, a, _, rfl, d, by omega, by omega, fun r H' r0 r1 g fr => ?_⟩
      obtain ⟨j, rfl⟩ : ∃ j : Nat, r = (j : Int) := ⟨r.toNat, by omega⟩
      have hj : j < xs.length := by omega
      refine .inl ⟨b, xs, _, xs[j], rfl, rfl, g.seq nb sq, atI_nat (List.getElem?_eq_getElem hj), ?_⟩
      exact q _ _ (List.getElem_mem hj) g fr
    · have hl : 0 < z.cps.toList.length := List.length_pos_iff.mpr hne
      have hz : z.length = z.cps.toList.length := by simp [Str.length]
      refine ⟨_, rfl, _, rfl, _, rfl, _, _, rfl, ⟨Nat.le_of_lt (small1000 (by omega)), rfl⟩, a, _, rfl, d, by omega, by omega, fun r H' r0 r1 g fr => ?_⟩
      obtain ⟨j, rfl⟩ : ∃ j : Nat, r = (j : Int) := ⟨r.toNat, by omega⟩
      have hj : j < z.cps.toList.length := by omega
      refine .inr (.inr ⟨z, _, z.cps.toList[j], rfl, rfl, Nat.le_of_lt (small1000 (by omega)), atI_nat (List.getElem?_eq_getElem hj), ?_⟩)
      exact q _ _ (List.getElem_mem hj) g fr
/-! ### names -/
theorem eqv_nil : ∀ ds : List PyData, PyData.eqv (.list ds) (.list []) = ds.isEmpty
  | [] => rfl
  | _ :: _ => rfl
theorem depth_strs : ∀ ns : List Nat, PyData.depthAll (ns.map fun c => PyData.str ⟨#[c]⟩) = 0
  | [] => rfl
  | c :: r => by
    show max (PyData.depth (.str ⟨#[c]⟩)) (PyData.depthAll (r.map _)) = 0
    rw [depth_strs r]
    rfl
theorem lay_strs : ∀ ns : List Nat, (∀ c ∈ ns, c < 128) → PyData.canLayAll0 (ns.map fun c => PyData.str ⟨#[c]⟩) = true
  | [], _ => rfl
  | c :: r, h => by
    show (PyData.canLay0 (.str ⟨#[c]⟩) && PyData.canLayAll0 (r.map _)) = true
    rw [lay_strs r fun x hx => h x (List.mem_cons_of_mem _ hx)]
    have h1 := h c List.mem_cons_self
    have h2 : PyData.strOk ⟨#[c]⟩ = true := by
      unfold PyData.strOk
      simp
      omega
    show (PyData.strOk ⟨#[c]⟩ && true) = true
    rw [h2]
    rfl
theorem shaped_strs (ns : List Nat) (h : ∀ c ∈ ns, c < 128) : SeqAt.shaped (.list (ns.map fun c => PyData.str ⟨#[c]⟩)) = true := by
  have h1 : PyData.canLay0 (.list (ns.map fun c => PyData.str ⟨#[c]⟩)) = true := lay_strs ns h
  have h2 : PyData.depth (.list (ns.map fun c => PyData.str ⟨#[c]⟩)) = 1 := by
    show PyData.depthAll _ + 1 = 1
    rw [depth_strs]
  unfold SeqAt.shaped
  rw [h1, h2]
  rfl
theorem dp_strs {H : Hp} : ∀ ns : List Nat, DpAll K H (ns.map fun c => V.str ⟨#[c]⟩) (ns.map fun c => PyData.str ⟨#[c]⟩)
  | [] => .nil
  | c :: r => .cons (.str _) (dp_strs r)
theorem filter_all (l : List Nat) : ((l.filter fun c => !sgn c).map fun c => PyData.str ⟨#[c]⟩).isEmpty = l.all sgn := by
  induction l with
  | nil => rfl
  | cons c r ih =>
    rw [List.filter_cons, List.all_cons]
    cases sgn c with
    | true => exact ih
    | false => rfl
abbrev Nis_name : List Str := ["value", "letter"]
theorem scis_name : FnScope Nis_name ["value"] (defScope sis_name) := ⟨rfl, rfl, rfl, by decide +kernel, rfl, by decide +kernel, by decide +kernel⟩
theorem getE {α : Type} {l : Array α} {i : Nat} {c : α} (h : l[i]? = some c) : l.toList[i]? = some c := by
  rw [Array.getElem?_toList]
  exact h
theorem take_one {α β : Type} {l : List α} {i : Nat} {c : α} (f : α → β) (h : l[i]? = some c) : ((l.take (i + 1)).map f) = (l.take i).map f ++ [f c] := by
  rw [List.take_add_one, h, List.map_append]
  rfl
theorem all_map (l : List Nat) : (l.map sgn).all id = l.all sgn := by
  rw [List.all_map]
  rfl
theorem ok_is_name {f : Addr} {fd : FuncData} (F : Fun K "is_name" "is_name" sis_name f fd) (T : Txt mg) : FnOk P w K mg base CX0 1 f fd ["value"] spWord := by
  have nd := scis_name.nd
  refine F.ok scis_name (fun vs H Q E h => ?_) (fun cdv A outer s H vs Q E hr h => ?_)
  · obtain ⟨a, v, rfl, _⟩ := h
    rfl
  · obtain ⟨a, v, rfl, kv, q⟩ := h
    obtain ⟨t8, g8⟩ := T.g_MAX_LETTERS
    refine ⟨_, (pss_cons (ps_if (PW.pt (pw_or (pt_not (pt_val (pe_callB call_isi (by rfl) T.b_isinstance (by decide +kernel) (pa_cons (pv 0) (pa_cons (pe_bltn (v := .ty "str") (by rfl) T.b_str (by decide +kernel) rfl) pa_nil))))) (pw_or1 (pt_not (pt_chain op_le op_le pe_int (pe_callB call_len (by rfl) T.b_len PySem.boot_len (pa_cons (pv 0) pa_nil)) (pe_glob (v := .int 8) (by rfl) g8 ⟨_, rfl⟩))))))
  (pss_one (ps_ret pe_bl))
  pss_nil)
  (pss_one (ps_ret (pe_callB (cr_all rfl) (by rfl) T.b_all (by decide +kernel) (pa_cons (pe_lc (own := [("letter", 1)]) (g := gName 1) (tt := tYes) rfl nd (pi_str (pv 0)) (blkOk_by (own := [("letter", 1)]) (N := Nis_name) (sc := defScope sis_name) (by decide +kernel)) (fun _ _ _ _ _ => (pg_name (i := 1) nd rfl (Or.inl rfl))) (fun _ _ _ _ _ => pts_nil) (fun _ _ _ _ _ => (pe_chain op_le_str op_le_str pe_str (pv 1) pe_str))) pa_nil))))), ?_⟩
    obtain ⟨t, ty, kk⟩ := kv.isi (K := K)
    refine ⟨v, rfl, v, _, t, _, isS v, rfl, .ty "str", ty, kk, isS v, rfl, ?_⟩
    cases kv with
    | str z hl ha =>
      have hz : z.length ≤ sizeLine := Nat.le_trans hl (by decide)
      have ez : z.length = z.cps.toList.length := by simp [Str.length]
      refine iteF ?_
      refine ⟨_, rfl, _, _, rfl, ⟨hz, rfl⟩, _, _, rfl, rfl, _, rfl, ite2 (fun e1 => ?_) (fun e1 => ?_)⟩
      · refine ⟨_, _, rfl, rfl, _, rfl, ite2 (fun e2 => ?_) (fun e2 => ?_)⟩
        · have n8 : ¬ (z.length : Int) ≤ 8 := by simpa using e2
          have w0 : nameV (.str z) = false := by
            show (decide _ && _) = false
            rw [decide_eq_false (fun h => n8 h.2)]
            rfl
          have q1 := q H (.refl H)
          rw [w0] at q1
          exact q1
        · have n8 : (z.length : Int) ≤ 8 := by simpa using e2
          have n1 : 1 ≤ (z.length : Int) := of_decide_eq_true e1
          have w0 : nameV (.str z) = z.cps.toList.all sgn := by
            show (decide _ && _) = _
            rw [decide_eq_true ⟨n1, n8⟩]
            rfl
          refine ⟨_, rfl, z, rfl, fun D nD => ?_⟩
          refine lc_it walk_str (fun i H' => Same H H' ∧ H' D = some (.lst (((z.cps.toList.take i).map sgn).map V.bl))) ⟨same_upd nD, upd_same⟩ (fun _ _ _ _ => trivial) (fun i x H1 H2 hi hp hy => ?_) (fun H' hp => ?_)
          · obtain ⟨rfl, c, hc, rfl⟩ := hy
            obtain ⟨sm, eD⟩ := hp
            refine ⟨rfl, ?_⟩
            have fin : ∀ b : Bool, b = sgn c → ∃ acc, H2 D = some (.lst acc) ∧ acc.length < sizeLine ∧ Same H (upd H2 D (.lst (acc ++ [V.bl b]))) ∧ (upd H2 D (.lst (acc ++ [V.bl b]))) D = some (.lst (((z.cps.toList.take (i + 1)).map sgn).map V.bl)) := fun b hb => by
              refine ⟨_, eD, ?_, fun p o e => ?_, ?_⟩
              · rw [List.length_map, List.length_map, List.length_take]
                exact Nat.lt_of_le_of_lt (Nat.min_le_right _ _) (small1000 (by omega))
              · rw [upd_ne (ne_of_none e nD)]
                exact sm _ _ e
              · rw [upd_same, take_one sgn (getE hc), List.map_append, hb]
                rfl
            refine ⟨_, rfl, _, _, rfl, rfl, _, rfl, ite2 (fun e3 => ?_) (fun e3 => ?_)⟩
            · refine ⟨_, _, rfl, rfl, fin _ ?_⟩
              unfold sgn
              rw [e3, Bool.true_and]
            · refine fin _ ?_
              unfold sgn
              rw [Bool.not_eq_true _ |>.mp e3, Bool.false_and]
          · obtain ⟨sm, eD⟩ := hp
            refine ⟨D, _, rfl, .inl (.inl eD), ?_⟩
            have e4 : z.cps.toList.take z.cps.size = z.cps.toList := List.take_of_length_le (by simp)
            rw [e4, all_map, ← w0]
            exact q _ sm
      · have n1 : ¬ 1 ≤ (z.length : Int) := by simpa using e1
        have w0 : nameV (.str z) = false := by
          show (decide _ && _) = false
          rw [decide_eq_false (fun h => n1 h.1)]
          rfl
        have q1 := q H (.refl H)
        rw [w0] at q1
        exact ⟨_, rfl, q1⟩
    | non => exact iteT (q H (.refl H))
    | bl b => exact iteT (q H (.refl H))
    | int i => exact iteT (q H (.refl H))
    | tup n e => exact iteT (q H (.refl H))
    | lst n e => exact iteT (q H (.refl H))
    | dct n e => exact iteT (q H (.refl H))
end
end LC

set_option Elab.async false
set_option linter.all false
set_option maxRecDepth 100000
set_option maxHeartbeats 4000000
namespace LC
open PySem PySem.Spec PyProof.Rows L2
section
variable {P : Program} {w : World} {K : PySem.W.Frag} {mg : Str → Option Value} {base : Heap}
abbrev N_law_is_word : List Str := ["_law_value", "_law_one"]
theorem sc_is_word : FnScope N_law_is_word ["_law_value"] (defScope s_law_is_word) := ⟨rfl, rfl, rfl, by decide +kernel, rfl, by decide +kernel, by decide +kernel⟩
theorem take_filter {l : List Nat} {i : Nat} {c : Nat} (h : l[i]? = some c) : ((l.take (i + 1)).filter fun c => !sgn c) = ((l.take i).filter fun c => !sgn c) ++ (if sgn c then [] else [c]) := by
  rw [List.take_add_one, h, List.filter_append]
  congr 1
  show ([c].filter _) = _
  rw [List.filter_cons]
  cases sgn c <;> rfl
theorem ok_is_word {f : Addr} {fd : FuncData} (F : Fun K "_law_is_word" "_law_is_word" s_law_is_word f fd) (T : Txt mg) : FnOk P w K mg base CX0 1 f fd ["_law_value"] spWord := by
  have nd := sc_is_word.nd
  refine F.ok sc_is_word (fun vs H Q E h => ?_) (fun cdv A outer s H vs Q E hr h => ?_)
  · obtain ⟨a, v, rfl, _⟩ := h
    rfl
  · obtain ⟨a, v, rfl, kv, q⟩ := h
    refine ⟨_, (pss_cons (ps_if (PW.pt (pw_or (pt_not (pt_val (pe_callB call_isi (by rfl) T.b_isinstance (by decide +kernel) (pa_cons (pv 0) (pa_cons (pe_bltn (v := .ty "str") (by rfl) T.b_str (by decide +kernel) rfl) pa_nil))))) (pw_or1 (pt_not (pt_chain op_le op_le pe_int (pe_callB call_len (by rfl) T.b_len PySem.boot_len (pa_cons (pv 0) pa_nil)) pe_int)))))
  (pss_one (ps_ret pe_bl))
  pss_nil)
  (pss_one (ps_ret (pe_cmpR (op_eqD hr.units) (pe_lc (own := [("_law_one", 1)]) (g := gName 1) rfl nd (pi_str (pv 0)) (blkOk_by (own := [("_law_one", 1)]) (N := N_law_is_word) (sc := defScope s_law_is_word) (by decide +kernel)) (fun _ _ _ _ _ => (pg_name (i := 1) nd rfl (Or.inl rfl))) (fun _ _ _ _ _ => pts_one (pt_not (pt_chain op_le_str op_le_str pe_str (pv 1) pe_str))) (fun _ _ _ _ _ => (pv 1))) (pe_lst pa_nil) (nomark _))))), ?_⟩
    obtain ⟨t, ty, kk⟩ := kv.isi (K := K)
    refine ⟨v, rfl, v, _, t, _, isS v, rfl, .ty "str", ty, kk, isS v, rfl, ?_⟩
    cases kv with
    | str z hl ha =>
      have hz : z.length ≤ sizeLine := Nat.le_trans hl (by decide)
      have ez : z.length = z.cps.toList.length := by simp [Str.length]
      refine iteF ?_
      refine ⟨_, rfl, _, _, rfl, ⟨hz, rfl⟩, _, _, rfl, rfl, _, rfl, ite2 (fun e1 => ?_) (fun e1 => ?_)⟩
      · refine ⟨_, _, rfl, rfl, _, rfl, ite2 (fun e2 => ?_) (fun e2 => ?_)⟩
        · have n8 : ¬ (z.length : Int) ≤ 8 := by simpa using e2
          have w0 : nameV (.str z) = false := by
            show (decide _ && _) = false
            rw [decide_eq_false (fun h => n8 h.2)]
            rfl
          have q1 := q H (.refl H)
          rw [w0] at q1
          exact q1
        · have n8 : (z.length : Int) ≤ 8 := by simpa using e2
          have n1 : 1 ≤ (z.length : Int) := of_decide_eq_true e1
          have w0 : nameV (.str z) = z.cps.toList.all sgn := by
            show (decide _ && _) = _
            rw [decide_eq_true ⟨n1, n8⟩]
            rfl
          refine ⟨_, rfl, z, rfl, fun D nD => ?_⟩
          refine lc_it walk_str (fun i H' => Same H H' ∧ H' D = some (.lst (((z.cps.toList.take i).filter fun c => !sgn c).map fun c => V.str ⟨#[c]⟩))) ⟨same_upd nD, upd_same⟩ (fun _ _ _ _ => trivial) (fun i x H1 H2 hi hp hy => ?_) (fun H' hp => ?_)
          · obtain ⟨rfl, c, hc, rfl⟩ := hy
            obtain ⟨sm, eD⟩ := hp
            refine ⟨rfl, ?_⟩
            have no : sgn c = true → Same H H2 ∧ H2 D = some (.lst (((z.cps.toList.take (i + 1)).filter fun c => !sgn c).map fun c => V.str ⟨#[c]⟩)) := fun hb => by
              refine ⟨sm, ?_⟩
              rw [eD, take_filter (getE hc), hb]
              simp
            have yes : sgn c = false → ∃ v, (some (some (V.str ⟨#[c]⟩)) : Option (Option V)) = some (some v) ∧ ∃ acc, H2 D = some (.lst acc) ∧ acc.length < sizeLine ∧ Same H (upd H2 D (.lst (acc ++ [v]))) ∧ (upd H2 D (.lst (acc ++ [v]))) D = some (.lst (((z.cps.toList.take (i + 1)).filter fun c => !sgn c).map fun c => V.str ⟨#[c]⟩)) := fun hb => by
              refine ⟨_, rfl, _, eD, ?_, fun p o e => ?_, ?_⟩
              · rw [List.length_map]
                exact Nat.lt_of_le_of_lt (Nat.le_trans (List.length_filter_le _ _) (by rw [List.length_take]; exact Nat.min_le_right _ _)) (small1000 (by omega))
              · rw [upd_ne (ne_of_none e nD)]
                exact sm _ _ e
              · rw [upd_same, take_filter (getE hc), hb, List.map_append]
                rfl
            refine ⟨_, rfl, _, _, rfl, rfl, _, rfl, ite2 (fun e3 => ?_) (fun e3 => ?_)⟩
            · refine ⟨_, _, rfl, rfl, _, rfl, ite2 (fun e4 => ?_) (fun e4 => ?_)⟩
              · refine yes ?_
                unfold sgn
                rw [e3, Bool.true_and]
                simpa using e4
              · refine no ?_
                unfold sgn
                rw [e3, Bool.true_and]
                simpa using e4
            · refine ⟨_, rfl, ?_⟩
              refine yes ?_
              unfold sgn
              rw [Bool.not_eq_true _ |>.mp e3, Bool.false_and]
          · obtain ⟨sm, eD⟩ := hp
            have e4 : z.cps.toList.take z.cps.size = z.cps.toList := List.take_of_length_le (by simp)
            rw [e4] at eD
            refine ⟨Nat.zero_le _, fun p np => ?_⟩
            have s2 : Same H' (upd H' p (.lst [])) := same_upd np
            refine ⟨_, _, .lst (.inl (.inl (s2 _ _ eD))) (dp_strs _), .lst (.inl (.inl upd_same)) .nil, shaped_strs _ (fun c hc => ha c (List.mem_filter.mp hc).1), rfl, ?_⟩
            rw [eqv_nil, filter_all, ← w0]
            exact q _ (sm.trans s2)
      · have n1 : ¬ 1 ≤ (z.length : Int) := by simpa using e1
        have w0 : nameV (.str z) = false := by
          show (decide _ && _) = false
          rw [decide_eq_false (fun h => n1 h.1)]
          rfl
        have q1 := q H (.refl H)
        rw [w0] at q1
        exact ⟨_, rfl, q1⟩
    | non => exact iteT (q H (.refl H))
    | bl b => exact iteT (q H (.refl H))
    | int i => exact iteT (q H (.refl H))
    | tup n e => exact iteT (q H (.refl H))
    | lst n e => exact iteT (q H (.refl H))
    | dct n e => exact iteT (q H (.refl H))
end
end LC

set_option Elab.async false
set_option linter.all false
set_option maxRecDepth 100000
set_option maxHeartbeats 4000000
namespace LC
open PySem PySem.Spec PyProof.Rows L2
section
variable {P : Program} {w : World} {K : PySem.W.Frag} {mg : Str → Option Value} {base : Heap}
abbrev N_law_odd_one : List Str := ["_law_die", "_law_some"]
theorem sc_odd : FnScope N_law_odd_one ["_law_die"] (defScope s_law_odd_one) := ⟨rfl, rfl, rfl, by decide +kernel, rfl, by decide +kernel, by decide +kernel⟩
theorem Knd.nw {H : Hp} {a p : Addr} {o : HO} {v : V} (d : Die H a) (h : H p = none) (k : Knd H a v) : Knd (upd H p o) a v := k.go (.new d h)
def KL (H : Hp) (a : Addr) (xs : List V) : Prop := ∀ v ∈ xs, Knd H a v
theorem KL.go {H H' : Hp} {a : Addr} {xs : List V} (k : KL H a xs) (g : Go a H H') : KL H' a xs := fun v h => (k v h).go g
theorem KL.nil {H : Hp} {a : Addr} : KL H a [] := fun v h => nomatch h
theorem KL.cons {H : Hp} {a : Addr} {x : V} {xs : List V} (h : Knd H a x) (k : KL H a xs) : KL H a (x :: xs) := fun v hv => by
  rcases List.mem_cons.mp hv with rfl | e
  · exact h
  · exact k v e
/-- one new object more among the known ones; which heap it is is forgotten -/
theorem nwT {H0 H H' : Hp} {a p : Addr} {xs ys : List V} (e : upd H p (.tup ys) = H') (g : Go a H0 H) (k : KL H a xs) (h : H p = none) : Go a H0 H' ∧ KL H' a (.ref p :: xs) ∧ Go a H H' ∧ H' p = some (.tup ys) ∧ p ≠ a := by
  subst e
  exact ⟨g.trans (.new g.2 h), .cons (.tup (g.2.ne h) upd_same) (k.go (.new g.2 h)), .new g.2 h, upd_same, g.2.ne h⟩
theorem nwL {H0 H H' : Hp} {a p : Addr} {xs ys : List V} (e : upd H p (.lst ys) = H') (g : Go a H0 H) (k : KL H a xs) (h : H p = none) : Go a H0 H' ∧ KL H' a (.ref p :: xs) ∧ Go a H H' ∧ H' p = some (.lst ys) ∧ p ≠ a := by
  subst e
  exact ⟨g.trans (.new g.2 h), .cons (.lst (g.2.ne h) upd_same) (k.go (.new g.2 h)), .new g.2 h, upd_same, g.2.ne h⟩
theorem nwD {H0 H H' : Hp} {a p : Addr} {xs : List V} {ys : List (Key × V)} (e : upd H p (.dK ys) = H') (g : Go a H0 H) (k : KL H a xs) (h : H p = none) : Go a H0 H' ∧ KL H' a (.ref p :: xs) ∧ Go a H H' ∧ H' p = some (.dK ys) ∧ p ≠ a := by
  subst e
  exact ⟨g.trans (.new g.2 h), .cons (.dct (g.2.ne h) upd_same) (k.go (.new g.2 h)), .new g.2 h, upd_same, g.2.ne h⟩
theorem Go.refl {H : Hp} {a : Addr} (d : Die H a) : Go a H H := .of d (.refl H)
theorem ok_odd {f : Addr} {fd : FuncData} (F : Fun K "_law_odd_one" "_law_odd_one" s_law_odd_one f fd) (T : Txt mg) (C : Cal P w K mg base 2 "_law_pick" ["_law_die", "_law_items"] (spPick K)) : FnOk P w K mg base CX0 3 f fd ["_law_die"] spOdd := by
  have nd := sc_odd.nd
  refine F.ok sc_odd (fun vs H Q E h => ?_) (fun cdv A outer s H vs Q E hr h => ?_)
  · obtain ⟨a, rfl, _⟩ := h
    rfl
  · obtain ⟨a, rfl, d, q⟩ := h
    refine ⟨_, (pss_cons (ps_set (i := 1) nd rfl (Or.inl rfl) (pe_lst (pa_cons pe_non (pa_cons pe_int (pa_cons pe_int (pa_cons pe_int (pa_cons pe_int (pa_cons (pe_un un_neg pe_int) (pa_cons pe_bl (pa_cons pe_bl (pa_cons pe_str (pa_cons pe_str (pa_cons pe_str (pa_cons pe_str (pa_cons (pe_tup pa_nil) (pa_cons (pe_tup (pa_cons pe_int pa_nil)) (pa_cons (pe_tup (pa_cons pe_int (pa_cons pe_int pa_nil))) (pa_cons (pe_tup (pa_cons pe_str pa_nil)) (pa_cons (pe_lst (pa_cons pe_int pa_nil)) (pa_cons pe_dnewK (pa_cons pe_str pa_nil)))))))))))))))))))))
  (pss_cons (ps_set (i := 1) nd rfl (Or.inl rfl) (pe_op op_cat (pv 1) (pe_lst (pa_cons (pe_op op_pow pe_int pe_int) (pa_cons (pe_tup (pa_cons pe_non pa_nil)) (pa_cons (pe_tup (pa_cons pe_str (pa_cons pe_str pa_nil))) (pa_cons (pe_tup (pa_cons pe_str (pa_cons pe_str pa_nil))) (pa_cons (pe_tup (pa_cons pe_str (pa_cons pe_str pa_nil))) (pa_cons (pe_tup (pa_cons pe_str (pa_cons pe_str pa_nil))) (pa_cons (pe_lst (pa_cons pe_str pa_nil)) (pa_cons (pe_tup (pa_cons pe_str pa_nil)) pa_nil)))))))))))
  (pss_one (ps_ret (pe_own C (hr.mono (by decide)) (by rfl) (pa_cons (pv 0) (pa_cons (pv 1) pa_nil))))))), ?_⟩
    have one : (1:Nat) ≤ sizeLine := by decide
    have two : (2:Nat) ≤ sizeLine := by decide
    have k0 : KL H a [] := .nil
    have g0 : Go a H H := .refl d
    refine ⟨_, rfl, Nat.zero_le _, fun p1 n1 => ?_⟩
    generalize h1 : upd _ p1 _ = H1
    obtain ⟨g1, k1, -, -, -⟩ := nwT h1 g0 k0 n1
    clear h1 n1 g0 k0
    refine ⟨one, fun p2 n2 => ?_⟩
    generalize h2 : upd _ p2 _ = H2
    obtain ⟨g2, k2, -, -, -⟩ := nwT h2 g1 k1 n2
    clear h2 n2 g1 k1
    refine ⟨two, fun p3 n3 => ?_⟩
    generalize h3 : upd _ p3 _ = H3
    obtain ⟨g3, k3, -, -, -⟩ := nwT h3 g2 k2 n3
    clear h3 n3 g2 k2
    refine ⟨one, fun p4 n4 => ?_⟩
    generalize h4 : upd _ p4 _ = H4
    obtain ⟨g4, k4, -, -, -⟩ := nwT h4 g3 k3 n4
    clear h4 n4 g3 k3
    refine ⟨one, fun p5 n5 => ?_⟩
    generalize h5 : upd _ p5 _ = H5
    obtain ⟨g5, k5, -, -, -⟩ := nwL h5 g4 k4 n5
    clear h5 n5 g4 k4
    intro p6 n6
    generalize h6 : upd _ p6 _ = H6
    obtain ⟨g6, k6, -, -, -⟩ := nwD h6 g5 k5 n6
    clear h6 n6 g5 k5
    refine ⟨(by show 19 ≤ sizeLine; decide), fun p7 n7 => ?_⟩
    generalize h7 : upd _ p7 _ = H7
    obtain ⟨g7, k7, -, el, nl⟩ := nwL h7 g6 k6 n7
    have gs : Go a H7 H7 := .refl g7.2
    clear h7 n7 g6 k6
    refine ⟨_, rfl, _, _, rfl, rfl, ⟨by decide, by decide, by decide⟩, one, fun p8 n8 => ?_⟩
    generalize h8 : upd _ p8 _ = H8
    obtain ⟨g8, k8, gn, -, -⟩ := nwT h8 g7 k7 n8
    replace gs := gs.trans gn
    clear h8 n8 g7 k7 gn
    refine ⟨two, fun p9 n9 => ?_⟩
    generalize h9 : upd _ p9 _ = H9
    obtain ⟨g9, k9, gn, -, -⟩ := nwT h9 g8 k8 n9
    replace gs := gs.trans gn
    clear h9 n9 g8 k8 gn
    refine ⟨two, fun p10 n10 => ?_⟩
    generalize h10 : upd _ p10 _ = H10
    obtain ⟨g10, k10, gn, -, -⟩ := nwT h10 g9 k9 n10
    replace gs := gs.trans gn
    clear h10 n10 g9 k9 gn
    refine ⟨two, fun p11 n11 => ?_⟩
    generalize h11 : upd _ p11 _ = H11
    obtain ⟨g11, k11, gn, -, -⟩ := nwT h11 g10 k10 n11
    replace gs := gs.trans gn
    clear h11 n11 g10 k10 gn
    refine ⟨two, fun p12 n12 => ?_⟩
    generalize h12 : upd _ p12 _ = H12
    obtain ⟨g12, k12, gn, -, -⟩ := nwT h12 g11 k11 n12
    replace gs := gs.trans gn
    clear h12 n12 g11 k11 gn
    refine ⟨one, fun p13 n13 => ?_⟩
    generalize h13 : upd _ p13 _ = H13
    obtain ⟨g13, k13, gn, -, -⟩ := nwL h13 g12 k12 n13
    replace gs := gs.trans gn
    clear h13 n13 g12 k12 gn
    refine ⟨one, fun p14 n14 => ?_⟩
    generalize h14 : upd _ p14 _ = H14
    obtain ⟨g14, k14, gn, -, -⟩ := nwT h14 g13 k13 n14
    replace gs := gs.trans gn
    clear h14 n14 g13 k13 gn
    refine ⟨(by show 8 ≤ sizeLine; decide), fun p15 n15 => ?_⟩
    generalize h15 : upd _ p15 _ = H15
    obtain ⟨g15, k15, gn, el2, nl2⟩ := nwL h15 g14 k14 n15
    replace gs := gs.trans gn
    clear h15 n15 g14 k14 gn
    refine ⟨p7, p15, _, _, rfl, rfl, gs.1 _ _ nl el, el2, (by show 27 ≤ sizeLine; decide), fun p16 n16 => ?_⟩
    generalize h16 : upd _ p16 _ = H16
    obtain ⟨g16, k16, -, el3, nl3⟩ := nwL h16 g15 k15 n16
    refine ⟨_, rfl, _, rfl, a, _, g16.2, rfl, .inl ⟨p16, _, rfl, .inl (.inl el3), nl3, List.cons_ne_nil _ _, (by show 27 < 1000; decide), fun v H' hv g _ => ?_⟩⟩
    refine q v H' (g16.trans g) (Knd.go ?_ g)
    clear q g h16
    simp only [List.cons_append, List.nil_append, List.mem_cons, List.not_mem_nil, or_false] at hv
    rcases hv with rfl | rfl | rfl | rfl | rfl | rfl | rfl | rfl | rfl | rfl | rfl | rfl | rfl | rfl | rfl | rfl | rfl | rfl | rfl | rfl | rfl | rfl | rfl | rfl | rfl | rfl | rfl
    all_goals first | exact .non | exact .int _ | exact .bl _ | exact .str _ (by decide) (by unfold Asc; decide +kernel) | exact k16 _ (by simp)
end
end LC

set_option Elab.async false
set_option linter.all false
set_option maxRecDepth 100000
set_option maxHeartbeats 4000000
namespace LC
open PySem PySem.Spec PyProof.Rows L2
theorem asc_app {x y : Str} (h : Asc x) (k : Asc y) : Asc (x ++ y) := fun c hc => by
  have e : (x ++ y).cps.toList = x.cps.toList ++ y.cps.toList := by
    show (x.cps ++ y.cps).toList = _
    rw [Array.toList_append]
  rw [e] at hc
  rcases List.mem_append.mp hc with q | q
  · exact h c q
  · exact k c q
theorem len_app (x y : Str) : (x ++ y).length = x.length + y.length := by
  show (x.cps ++ y.cps).size = _
  rw [Array.size_append]
  rfl
theorem asc_cut {z : Str} (h : Asc z) (lo hi : Option Int) : Asc (cutS z lo hi) := fun c hc => by
  have e : (cutS z lo hi).cps.toList = ((z.cps.toList.drop (HT.sIx z.length 0 lo)).take (HT.sIx z.length z.length hi - HT.sIx z.length 0 lo)) := rfl
  rw [e] at hc
  exact h c (List.mem_of_mem_drop (List.mem_of_mem_take hc))
theorem asc_upper {z : Str} (h : Asc z) : Asc (PySem.Txt.upper z) := fun c hc => by
  rw [upper_ascii h] at hc
  have e : (⟨z.cps.map up1⟩ : Str).cps.toList = z.cps.toList.map up1 := by
    show (z.cps.map up1).toList = _
    rw [Array.toList_map]
  rw [e] at hc
  obtain ⟨d, hd, rfl⟩ := List.mem_map.mp hc
  have h1 := h d hd
  unfold up1
  split <;> omega
theorem asc_fold (sep : Str) (hs : Asc sep) : ∀ (rest : List Str) (acc : Array Nat), (∀ c ∈ acc.toList, c < 128) → (∀ p ∈ rest, Asc p) → ∀ c ∈ (rest.foldl (fun acc p => acc ++ sep.cps ++ p.cps) acc).toList, c < 128
  | [], acc, h, _, c, hc => h c hc
  | p :: r, acc, h, k, c, hc => by
    refine asc_fold sep hs r (acc ++ sep.cps ++ p.cps) (fun d hd => ?_) (fun q hq => k q (List.mem_cons_of_mem _ hq)) c hc
    rw [Array.toList_append, Array.toList_append] at hd
    rcases List.mem_append.mp hd with z | z
    · rcases List.mem_append.mp z with y | y
      · exact h d y
      · exact hs d y
    · exact k p List.mem_cons_self d z
theorem asc_join {sep : Str} (hs : Asc sep) : ∀ {ps : List Str}, (∀ p ∈ ps, Asc p) → Asc (PySem.Txt.join sep ps)
  | [], _ => fun c hc => by
    cases hc
  | p :: r, h => fun c hc => asc_fold sep hs r p.cps (h p List.mem_cons_self) (fun q hq => h q (List.mem_cons_of_mem _ hq)) c hc
theorem sum_ones : ∀ cs : List Nat, ((cs.map fun c => (⟨#[c]⟩ : Str)).map (·.length)).sum = cs.length
  | [] => rfl
  | c :: r => by
    show (([c] : List Nat).length + ((r.map fun c => (⟨#[c]⟩ : Str)).map (·.length)).sum) = r.length + 1
    rw [sum_ones r]
    show 1 + r.length = r.length + 1
    omega
end LC

set_option Elab.async false
set_option linter.all false
set_option maxRecDepth 100000
set_option maxHeartbeats 4000000
namespace LC
open PySem PySem.Spec PyProof.Rows L2
section
variable {P : Program} {w : World} {K : PySem.W.Frag} {mg : Str → Option Value} {base : Heap}
abbrev N_law_right : List Str := ["_law_die", "_law_letters", "_law_word", "_law_at", "_law_odd", "_law_some", "_law_value", "_law_turn"]
theorem sc_right : FnScope N_law_right ["_law_die"] (defScope s_law_right) := ⟨rfl, rfl, rfl, by decide +kernel, rfl, by decide +kernel, by decide +kernel⟩
def letters : Str := "abcdefghijklmnopqrstuvwxyz"
theorem letters_ne : letters.cps.toList ≠ [] := by decide +kernel
theorem letters_asc : Asc letters := by unfold Asc; decide +kernel
theorem letters_len : letters.length < 1000 := by decide +kernel
theorem sz30 {n : Nat} (h : n ≤ 30000) : n ≤ sizeLine := Nat.le_trans h (by decide)
theorem ok_right {f : Addr} {fd : FuncData} (F : Fun K "_law_right" "_law_right" s_law_right f fd) (T : Txt mg)
    (CC : Cal P w K mg base 1 "_law_cast" ["_law_die", "_law_total"] spCast) (CP : Cal P w K mg base 2 "_law_pick" ["_law_die", "_law_items"] (spPick K)) (CO : Cal P w K mg base 3 "_law_odd_one" ["_law_die"] spOdd)
    (CN : Cal P w K mg base 1 "is_name" ["value"] spWord) (CW : Cal P w K mg base 1 "_law_is_word" ["_law_value"] spWord) : FnOk P w K mg base CX0 4 f fd ["_law_die"] spRight := by
  have nd := sc_right.nd
  refine F.ok sc_right (fun vs H Q E h => ?_) (fun cdv A outer s H vs Q E hr h => ?_)
  · obtain ⟨a, rfl, _⟩ := h
    rfl
  · obtain ⟨a, rfl, d, q⟩ := h
    have hr1 : Room 1 _ := hr.mono (by decide)
    have hr2 : Room 2 _ := hr.mono (by decide)
    refine ⟨_, (pss_cons (ps_set (i := 1) nd rfl (Or.inr rfl) pe_str)
  (pss_cons (ps_set (i := 2) nd rfl (Or.inl rfl) (pe_join pe_str (pe_lc (own := [("_law_turn", 7)]) (g := gName 7) (tt := tYes) rfl nd (pi_range1 rfl T.b_range (pa_cons (pe_own CC hr1 (by rfl) (pa_cons (pv 0) (pa_cons pe_int pa_nil))) pa_nil)) (blkOk_by (own := [("_law_turn", 7)]) (N := N_law_right) (sc := defScope s_law_right) (by decide +kernel)) (fun _ _ _ _ _ => (pg_name (i := 7) nd rfl (Or.inl rfl))) (fun _ _ _ _ _ => pts_nil) (fun _ _ _ _ _ => (pe_own CP hr2 (by rfl) (pa_cons (pv 0) (pa_cons (pv 1) pa_nil)))))))
  (pss_cons (ps_par (i := 3) (j := 4) (by rfl) nd rfl rfl (by decide) rfl rfl (pa_cons (pe_own CC hr1 (by rfl) (pa_cons (pv 0) (pa_cons (pe_op op_add (pe_callB call_len (by rfl) T.b_len PySem.boot_len (pa_cons (pv 2) pa_nil)) pe_int) pa_nil))) (pa_cons (pe_own CP hr2 (by rfl) (pa_cons (pv 0) (pa_cons (pe_lst (pa_cons pe_str (pa_cons pe_str (pa_cons pe_str (pa_cons pe_str (pa_cons pe_str (pa_cons pe_str (pa_cons pe_str (pa_cons pe_str (pa_cons pe_str (pa_cons pe_str pa_nil))))))))))) pa_nil))) pa_nil)) (by rfl))
  (pss_cons (ps_set (i := 5) nd rfl (Or.inl rfl) (pe_lst (pa_cons (pv 2) (pa_cons (pe_op op_add_str (pe_op op_add_str (pe_slice sl_str (pv 2) po_none (po_some (pv 3))) (pv 4)) (pe_slice sl_str (pv 2) (po_some (pv 3)) po_none)) (pa_cons (pe_slice sl_str (pv 2) po_none (po_some (pv 3))) (pa_cons (pe_upper (pv 2)) (pa_cons (pe_op op_add_str (pv 2) (pv 2)) (pa_cons (pe_lst (pa_cons (pv 2) pa_nil)) (pa_cons (pe_tup (pa_cons (pv 2) pa_nil)) (pa_cons (pe_own CO hr (by rfl) (pa_cons (pv 0) pa_nil)) pa_nil))))))))))
  (pss_cons (ps_for PassesOwn.never rfl (pi_list (pv 5)) (pg_name (i := 6) nd rfl (Or.inl rfl))
  (pss_one (ps_if (pt_cmpR op_ne (pe_callB call_repr_bl (by rfl) T.b_repr (by decide +kernel) (pa_cons (pe_own CN hr1 (by rfl) (pa_cons (pv 6) pa_nil)) pa_nil)) (pe_callB call_repr_bl (by rfl) T.b_repr (by decide +kernel) (pa_cons (pe_own CW hr1 (by rfl) (pa_cons (pv 6) pa_nil)) pa_nil)) (nomark _))
  (pss_one (ps_ret pe_bl))
  pss_nil)))
  (pss_one (ps_ret pe_bl))))))), ?_⟩
    -- the word
    refine ⟨⟨_, rfl⟩, _, rfl, a, 10, rfl, d, by decide, by decide, fun r H1 r0 r1 g1 f1 => ?_⟩
    refine ⟨r, rfl, by omega, by omega, fun D nD => ?_⟩
    have nDa : D ≠ a := g1.2.ne nD
    refine lc_range (lo := 0) (n := r.toNat) (fun i H' => Go a H1 H' ∧ ∃ cs : List Nat, cs.length = i ∧ (∀ c ∈ cs, c < 128) ∧ H' D = some (.lst (cs.map fun c => V.str ⟨#[c]⟩))) ⟨.new g1.2 nD, [], rfl, (fun c h => nomatch h), upd_same⟩ (fun i H2 hi hp => ?_) (fun H2 hp => ?_)
    · obtain ⟨g2, cs, ec, ha, eD⟩ := hp
      refine ⟨rfl, ?_⟩
      refine ⟨_, rfl, _, rfl, a, _, g2.2, rfl, .inr ⟨letters, rfl, letters_ne, letters_len, fun c H3 hc g3 f3 => ?_⟩⟩
      refine ⟨_, (f3 D nDa).trans eD, ?_, ?_, cs ++ [c], ?_, ?_, ?_⟩
      · rw [List.length_map, ec]
        exact small1000 (by omega)
      · have g4 := g2.trans g3
        refine ⟨fun b o hb e => ?_, ?_⟩
        · rw [upd_ne (ne_of_none e nD)]
          exact g4.1 b o hb e
        · obtain ⟨x, y, z, e⟩ := g4.2
          exact ⟨x, y, z, by rw [upd_ne nDa.symm]; exact e⟩
      · rw [List.length_append, ec]
        rfl
      · intro c' h'
        rcases List.mem_append.mp h' with h' | h'
        · exact ha c' h'
        · rw [List.mem_singleton.mp h']
          exact letters_asc c hc
      · rw [upd_same, List.map_append]
        rfl
    · obtain ⟨g2, cs, ec, ha, eD⟩ := hp
      have cl : cs.length ≤ 9 := by omega
      have mm : (cs.map fun c => V.str ⟨#[c]⟩) = ((cs.map fun c => (⟨#[c]⟩ : Str)).map V.str) := by
        rw [List.map_map]
        rfl
      refine ⟨_, D, cs.map (fun c => (⟨#[c]⟩ : Str)), rfl, rfl, .inl (.inl (.inl (eD.trans (by rw [mm])))), ?_, ?_⟩
      · rw [sum_ones]
        show cs.length + _ * 0 ≤ _
        omega
      have aw : Asc (PySem.Txt.join "" (cs.map (fun c => (⟨#[c]⟩ : Str)))) := asc_join (by unfold Asc; decide +kernel) fun p hp => by
        obtain ⟨c, hc, rfl⟩ := List.mem_map.mp hp
        intro c' h'
        rw [List.mem_singleton.mp h']
        exact ha c hc
      have lw : (PySem.Txt.join "" (cs.map (fun c => (⟨#[c]⟩ : Str)))).length ≤ 9 := by
        have e := PySem.size_glued "" (cs.map (fun c => (⟨#[c]⟩ : Str)))
        rw [sum_ones] at e
        have e2 : (PySem.Txt.join "" (cs.map (fun c => (⟨#[c]⟩ : Str)))).length = cs.length + _ * 0 := e
        omega
      generalize PySem.Txt.join "" (cs.map (fun c => (⟨#[c]⟩ : Str))) = word at aw lw ⊢
      have g3 : Go a H H2 := g1.trans g2
      clear g1 g2 f1 eD nD hr2 mm
      -- at, odd
      refine ⟨_, rfl, _, rfl, _, _, rfl, ⟨sz30 (by omega), rfl⟩, _, _, rfl, rfl, a, _, rfl, g3.2, by omega, by omega, fun at' H4 a0 a1 g4 f4 => ?_⟩
      refine ⟨_, rfl, (by show 10 ≤ sizeLine; decide), fun p5 n5 => ?_⟩
      generalize h5 : upd _ p5 _ = H5
      obtain ⟨g5, -, -, e5, np5⟩ := nwL h5 (g3.trans g4) .nil n5
      refine ⟨a, _, g5.2, rfl, .inl ⟨p5, _, rfl, .inl (.inl e5), np5, List.cons_ne_nil _ _, (by show 10 < 1000; decide), fun v H6 hv g6 f6 => ?_⟩⟩
      obtain ⟨odd, rfl, ho, lo⟩ : ∃ z : Str, v = .str z ∧ Asc z ∧ z.length ≤ 2 := by
        simp only [List.mem_cons, List.not_mem_nil, or_false] at hv
        rcases hv with rfl | rfl | rfl | rfl | rfl | rfl | rfl | rfl | rfl | rfl
        all_goals exact ⟨_, rfl, by unfold Asc; decide +kernel, by decide⟩
      clear hv h5 n5 e5 np5 f6 f4
      replace g6 := g5.trans g6
      clear g5 g4 g3
      refine ⟨_, _, rfl, ?_⟩
      -- the values
      have kn : ∀ {H' : Hp} (z : Str), Asc z → z.length ≤ 100 → Knd H' a (.str z) := fun z h1 h2 => .str z (by omega) h1
      have l1 := cutS_length word none (some at')
      have l2 := cutS_length word (some at') none
      have A1 := asc_cut aw none (some at')
      have A2 := asc_cut aw (some at') none
      have hwz : word.length ≤ sizeLine := sz30 (by omega)
      refine ⟨_, rfl, _, rfl, _, rfl, _, rfl, word, rfl, hwz, ?_⟩
      refine ⟨_, rfl, _, _, rfl, rfl, sz30 (by omega), ?_⟩
      refine ⟨_, rfl, _, rfl, _, rfl, word, rfl, hwz, ?_⟩
      refine ⟨_, _, rfl, rfl, (by rw [len_app]; exact sz30 (by omega)), ?_⟩
      refine ⟨_, rfl, _, rfl, _, rfl, word, rfl, hwz, ?_⟩
      refine ⟨_, rfl, ⟨_, rfl⟩, word, rfl, rfl, by omega, ?_⟩
      refine ⟨_, rfl, _, rfl, _, _, rfl, rfl, sz30 (by omega), ?_⟩
      refine ⟨_, rfl, (by show 1 ≤ sizeLine; decide), fun p7 n7 => ?_⟩
      generalize h7 : upd _ p7 _ = H7
      obtain ⟨g7, k7, -, -, -⟩ := nwL h7 g6 .nil n7
      clear h7 n7
      refine ⟨_, rfl, (by show 1 ≤ sizeLine; decide), fun p8 n8 => ?_⟩
      generalize h8 : upd _ p8 _ = H8
      obtain ⟨g8, k8, -, -, -⟩ := nwT h8 g7 k7 n8
      clear h8 n8
      refine ⟨_, rfl, a, rfl, g8.2, fun ov H9 g9 ko => ?_⟩
      have k9 := k8.go g9
      replace g9 := g8.trans g9
      refine ⟨(by show 8 ≤ sizeLine; decide), fun p10 n10 => ?_⟩
      generalize h10 : upd _ p10 _ = H10
      obtain ⟨g10, k10, gn, e10, np10⟩ := nwL h10 g9 k9 n10
      replace ko := ko.go gn
      clear h10 n10 gn g9 k9 g8 k8 g7 k7 g6
      -- the loop
      have lu := PyProof.Rows.len_upper word
      have au := asc_upper aw
      have ka : KL H10 a [.str word, .str (cutS word none (some at') ++ odd ++ cutS word (some at') none), .str (cutS word none (some at')), .str (PySem.Txt.upper word), .str (word ++ word), .ref p7, .ref p8, ov] := by
        refine .cons (kn _ aw (by omega)) (.cons (kn _ (asc_app (asc_app A1 ho) A2) (by rw [len_app, len_app]; omega)) (.cons (kn _ A1 (by omega)) (.cons (kn _ au (by omega)) (.cons (kn _ (asc_app aw aw) (by rw [len_app]; omega)) ?_))))
        exact .cons (k10 _ (by simp)) (.cons (k10 _ (by simp)) (.cons ko .nil))
      refine ⟨_, rfl, p10, rfl, ⟨_, .inl (.inl e10)⟩, for_list (K := K) (a := p10) (xs := [.str word, .str (cutS word none (some at') ++ odd ++ cutS word (some at') none), .str (cutS word none (some at')), .str (PySem.Txt.upper word), .str (word ++ word), .ref p7, .ref p8, ov])
        (fun i σ H' => (∃ y6, σ = [some (.ref a), some (.str letters), some (.str word), some (.int at'), some (.str odd), some (.ref p10), y6, none]) ∧ Same H10 H') ⟨⟨_, rfl⟩, .refl _⟩ (fun i σ H' _ hp => hp.2.seq (.inl (.inl e10))) (fun i x σ H' hx hp => ?_) (fun σ H' hp => ?_)⟩
      · obtain ⟨⟨y6, rfl⟩, sm⟩ := hp
        have kx : Knd H' a x := (ka x (List.mem_of_getElem? hx)).go (.of g10.2 sm)
        refine ⟨_, rfl, a, x, rfl, kx, fun H11 s11 => ?_⟩
        refine ⟨_, rfl, ?_⟩
        have kx2 : Knd H11 a x := kx.go (.of (g10.2.same sm) s11)
        refine ⟨_, rfl, a, x, rfl, kx2, fun H12 s12 => ?_⟩
        refine ⟨_, rfl, rfl, _, rfl, ?_⟩
        refine iteNS rfl ?_
        exact ⟨⟨_, rfl⟩, sm.trans (s11.trans s12)⟩
      · obtain ⟨⟨y6, rfl⟩, sm⟩ := hp
        exact q _ (g10.trans (.of g10.2 sm))
end
end LC

set_option Elab.async false
set_option linter.all false
set_option maxRecDepth 100000
set_option maxHeartbeats 4000000
namespace LC
open PySem PySem.Spec PyProof.Rows L2
section
variable {P : Program} {w : World} {K : PySem.W.Frag} {mg : Str → Option Value} {base : Heap}
abbrev Nlaw : List Str := ["_law_script", "_law_at", "_law_die", "_law_turn", "_law_told", "_law_word"]
theorem sclaw : FnScope Nlaw ["_law_script"] (defScope slaw) := ⟨rfl, rfl, rfl, by decide +kernel, rfl, by decide +kernel, by decide +kernel⟩
def words8 : List Str := ["a", "zzzzzzzz", "aaaaaaaaa", "", "block", "Run", "a1", "blocking"]
theorem words8_ok : words8.map wordB = [true, true, false, false, true, false, false, true] := by decide +kernel
theorem words8_asc : ∀ z ∈ words8, Asc z ∧ z.length ≤ 30000 := by unfold Asc; decide +kernel
theorem dp_bls {H : Hp} : ∀ bs : List Bool, DpAll K H (bs.map V.bl) (bs.map PyData.bool)
  | [] => .nil
  | b :: r => .cons (.bl b) (dp_bls r)
theorem ok_law {f : Addr} {fd : FuncData} (F : Fun K "law" "law" slaw f fd) (T : Txt mg)
    (CB : Cal P w K mg base 1 "_law_numbers" ["_law_script", "_law_at"] (spNumbers K)) (CR : Cal P w K mg base 4 "_law_right" ["_law_die"] spRight) (CN : Cal P w K mg base 1 "is_name" ["value"] spWord) : FnOk P w K mg base CX0 5 f fd ["_law_script"] (spLaw K) := by
  have nd := sclaw.nd
  refine F.ok sclaw (fun vs H Q E h => ?_) (fun cdv A outer s H vs Q E hr h => ?_)
  · obtain ⟨a, ns, rfl, _⟩ := h
    rfl
  · obtain ⟨a, ns, rfl, sq, hlen, q⟩ := h
    have hr1 : Room 1 _ := hr.mono (by decide)
    refine ⟨_, (pss_cons (ps_for PassesOwn.never rfl (pi_range1 rfl T.b_range (pa_cons (pe_callB (call_max2 rfl) (by rfl) T.b_max (by decide +kernel) (pa_cons pe_int (pa_cons (pe_callB (call_min2 rfl) (by rfl) T.b_min (by decide +kernel) (pa_cons pe_int (pa_cons (pe_callB call_len (by rfl) T.b_len PySem.boot_len (pa_cons (pv 0) pa_nil)) pa_nil))) pa_nil))) pa_nil)) (pg_name (i := 1) nd rfl (Or.inl rfl))
  (pss_cons (ps_set (i := 2) nd rfl (Or.inl rfl) (pe_own CB hr1 (by rfl) (pa_cons (pv 0) (pa_cons (pv 1) pa_nil))))
  (pss_one (ps_for PassesOwn.never rfl (pi_range1 rfl T.b_range (pa_cons pe_int pa_nil)) (pg_name (i := 3) nd rfl (Or.inl rfl))
  (pss_one (ps_if (pt_not (pt_val (pe_own CR hr (by rfl) (pa_cons (pv 2) pa_nil))))
  (pss_one (ps_ret pe_bl))
  pss_nil))))))
  (pss_cons (ps_setLc (i := 4) (own := [("_law_word", 5)]) (g := gName 5) (tt := tYes) rfl nd rfl rfl (sw_true rfl rfl rfl (by decide +kernel)) (pi_tup (pe_tup (pa_cons pe_str (pa_cons pe_str (pa_cons pe_str (pa_cons pe_str (pa_cons pe_str (pa_cons pe_str (pa_cons pe_str (pa_cons pe_str pa_nil)))))))))) (blkOk_by (own := [("_law_word", 5)]) (N := Nlaw) (sc := defScope slaw) (by decide +kernel)) (fun _ _ _ _ _ => (pg_name (i := 5) nd rfl (Or.inl rfl))) (fun _ _ _ _ _ => pts_nil) (fun _ _ _ _ _ => (pe_own CN hr1 (by rfl) (pa_cons (pv 5) pa_nil))))
  (pss_one (ps_ret (pe_cmpR (op_eqD hr.units) (pv 4) (pe_lst (pa_cons pe_bl (pa_cons pe_bl (pa_cons pe_bl (pa_cons pe_bl (pa_cons pe_bl (pa_cons pe_bl (pa_cons pe_bl (pa_cons pe_bl pa_nil))))))))) (nomark _)))))), ?_⟩
    refine ⟨_, rfl, _, _, rfl, .inl ⟨_, sq, rfl⟩, _, _, rfl, _, _, rfl, ?_⟩
    have hl : (ns.map V.int).length = ns.length := List.length_map _
    rw [hl]
    obtain ⟨m, em, hm⟩ : ∃ m : Nat, (if (if ((ns.length : Nat) : Int) < 8 then ((ns.length : Nat) : Int) else 8) > 1 then (if ((ns.length : Nat) : Int) < 8 then ((ns.length : Nat) : Int) else 8) else 1) = (m : Int) ∧ m ≤ 8 := by
      refine ⟨(if (if ((ns.length : Nat) : Int) < 8 then ((ns.length : Nat) : Int) else 8) > 1 then (if ((ns.length : Nat) : Int) < 8 then ((ns.length : Nat) : Int) else 8) else 1).toNat, ?_, ?_⟩ <;> (split <;> split <;> omega)
    rw [em]
    refine ⟨_, rfl, by omega, by omega, for_range (lo := 0) (n := m) (fun i σ H' => (∃ y1 y2 y3, σ = [some (.ref a), y1, y2, y3, none, none]) ∧ Same H H') ⟨⟨_, _, _, rfl⟩, .refl H⟩ (fun i σ H1 hi hp => ?_) (fun σ H1 hp => ?_)⟩
    · obtain ⟨⟨y1, y2, y3, rfl⟩, s1⟩ := hp
      have ei : (0 : Int) + (i : Int) = (i : Int) := by omega
      rw [ei]
      refine ⟨_, rfl, _, rfl, a, ns, i, rfl, s1.seq sq, by omega, fun H2 p s2 np dp => ?_⟩
      have np0 : H p = none := s1.free np
      refine ⟨_, rfl, by decide, by decide, for_range (lo := 0) (n := 6) (fun j σ H' => (∃ y3, σ = [some (.ref a), some (.int (i : Int)), some (.ref p), y3, none, none]) ∧ Same H H' ∧ Die H' p) ⟨⟨_, rfl⟩, s1.trans s2, dp⟩ (fun j σ H3 hj hp => ?_) (fun σ H3 hp => ?_)⟩
      · obtain ⟨⟨z3, rfl⟩, s3, d3⟩ := hp
        refine ⟨_, rfl, p, rfl, d3, fun H4 g4 => ⟨_, rfl, ?_⟩⟩
        refine ⟨⟨_, rfl⟩, fun b o e => g4.1 b o (ne_of_none e np0) (s3 b o e), g4.2⟩
      · obtain ⟨⟨z3, rfl⟩, s3, d3⟩ := hp
        exact ⟨⟨_, _, _, rfl⟩, s3⟩
    · obtain ⟨⟨y1, y2, y3, rfl⟩, s1⟩ := hp
      refine ⟨(by show 8 ≤ sizeLine; decide), fun t nt => ?_⟩
      generalize ht : upd _ t _ = H2
      have et : H2 t = some (.tup (words8.map V.str)) := by
        rw [← ht, upd_same]
        rfl
      clear ht
      refine ⟨t, rfl, ⟨_, .inl (.inl et)⟩, fun D nD => ?_⟩
      refine lc_tup (K := K) (a := t) (xs := words8.map V.str) (fun i H' => Same H2 H' ∧ H' D = some (.lst (((words8.take i).map wordB).map V.bl))) ⟨same_upd nD, upd_same⟩ (fun i H' _ hp => .inl (.inl (hp.1 _ _ et))) (fun i x H' hx hp => ?_) (fun H' hp => ?_)
      · obtain ⟨sm, eD⟩ := hp
        rw [List.getElem?_map] at hx
        obtain ⟨z, hz, rfl⟩ : ∃ z, words8[i]? = some z ∧ V.str z = x := by
          cases e : words8[i]? with
          | none =>
            rw [e] at hx
            cases hx
          | some z =>
            rw [e] at hx
            exact ⟨z, rfl, Option.some.inj hx⟩
        obtain ⟨az, lz⟩ := words8_asc z (List.mem_of_getElem? hz)
        have hi : i < 8 := (List.getElem?_eq_some_iff.mp hz).1
        refine ⟨rfl, ?_⟩
        refine ⟨_, rfl, a, .str z, rfl, .str z lz az, fun H3 s3 => ?_⟩
        refine ⟨_, s3 _ _ eD, ?_, ?_, ?_⟩
        · rw [List.length_map, List.length_map, List.length_take]
          exact Nat.lt_of_le_of_lt (Nat.min_le_left _ _) (small1000 (by omega))
        · exact fun b o e => by
            rw [upd_ne (ne_of_none e nD)]
            exact s3 _ _ (sm _ _ e)
        · rw [upd_same, take_one wordB hz, List.map_append]
          rfl
      · obtain ⟨sm, eD⟩ := hp
        have e8 : (words8.take (words8.map V.str).length).map wordB = [true, true, false, false, true, false, false, true] := words8_ok
        rw [e8] at eD
        refine ⟨_, rfl, (by show 8 ≤ sizeLine; decide), fun r nr => ?_⟩
        refine ⟨_, _, .lst (.inl (.inl (same_upd nr _ _ eD))) (dp_bls _), .lst (.inl (.inl upd_same)) (dp_bls [true, true, false, false, true, false, false, true]), rfl, rfl, ?_⟩
        exact q _
end
end LC

set_option Elab.async false
set_option linter.all false
set_option maxRecDepth 100000
set_option maxHeartbeats 4000000
namespace LC
open PySem PySem.Spec PyProof.Rows L2
theorem all_mk {l : PySem.W.OpenLaw} {w : World} {K : PySem.W.Frag} {h : Heap} {mg : Str → Option Value} {fa f1 f2 f3 f4 f5 f6 f7 f8 : Addr} (X : K.In h) (G : h.Ns mainGlobals mg) (hfa : mg "law" = some (.ref fa))
    {od1 an1 od2 an2 od3 an3 od4 an4 od5 an5 od6 an6 od7 an7 od8 an8 : Option Addr} {sl1 sl2 sl3 sl4 sl5 sl6 sl7 sl8 : Array (Option Value)} {oc1 kV1 dc1 pm1 cd1 ct1 oc2 kV2 dc2 pm2 cd2 ct2 oc3 kV3 dc3 pm3 cd3 ct3 oc4 kV4 dc4 pm4 cd4 ct4 oc5 kV5 dc5 pm5 cd5 ct5 oc6 kV6 dc6 pm6 cd6 ct6 oc7 kV7 dc7 pm7 cd7 ct7 oc8 kV8 dc8 pm8 cd8 ct8 : Value}
    {t_MAX_LETTERS : Tok}
    (a1 : PySem.W.nsIn K mainGlobals "is_name" = some (some (.ref f1))) (l1 : K.lookup f1 = some ⟨oc1, od1, .func (PySem.W.fnOf "is_name" "is_name" (defArgs sis_name) (defBody sis_name) (defScope sis_name) .none kV1 dc1 pm1 an1 cd1 ct1), sl1⟩) (c1 : PySem.W.codeIn K cd1 "is_name" = true) (k1 : PySem.W.keepIn K (.ref f1) = true)
    (a2 : PySem.W.nsIn K mainGlobals "_law_numbers" = some (some (.ref f2))) (l2 : K.lookup f2 = some ⟨oc2, od2, .func (PySem.W.fnOf "_law_numbers" "_law_numbers" (defArgs s_law_numbers) (defBody s_law_numbers) (defScope s_law_numbers) .none kV2 dc2 pm2 an2 cd2 ct2), sl2⟩) (c2 : PySem.W.codeIn K cd2 "_law_numbers" = true) (k2 : PySem.W.keepIn K (.ref f2) = true)
    (a3 : PySem.W.nsIn K mainGlobals "_law_cast" = some (some (.ref f3))) (l3 : K.lookup f3 = some ⟨oc3, od3, .func (PySem.W.fnOf "_law_cast" "_law_cast" (defArgs s_law_cast) (defBody s_law_cast) (defScope s_law_cast) .none kV3 dc3 pm3 an3 cd3 ct3), sl3⟩) (c3 : PySem.W.codeIn K cd3 "_law_cast" = true) (k3 : PySem.W.keepIn K (.ref f3) = true)
    (a4 : PySem.W.nsIn K mainGlobals "_law_pick" = some (some (.ref f4))) (l4 : K.lookup f4 = some ⟨oc4, od4, .func (PySem.W.fnOf "_law_pick" "_law_pick" (defArgs s_law_pick) (defBody s_law_pick) (defScope s_law_pick) .none kV4 dc4 pm4 an4 cd4 ct4), sl4⟩) (c4 : PySem.W.codeIn K cd4 "_law_pick" = true) (k4 : PySem.W.keepIn K (.ref f4) = true)
    (a5 : PySem.W.nsIn K mainGlobals "_law_is_word" = some (some (.ref f5))) (l5 : K.lookup f5 = some ⟨oc5, od5, .func (PySem.W.fnOf "_law_is_word" "_law_is_word" (defArgs s_law_is_word) (defBody s_law_is_word) (defScope s_law_is_word) .none kV5 dc5 pm5 an5 cd5 ct5), sl5⟩) (c5 : PySem.W.codeIn K cd5 "_law_is_word" = true) (k5 : PySem.W.keepIn K (.ref f5) = true)
    (a6 : PySem.W.nsIn K mainGlobals "_law_odd_one" = some (some (.ref f6))) (l6 : K.lookup f6 = some ⟨oc6, od6, .func (PySem.W.fnOf "_law_odd_one" "_law_odd_one" (defArgs s_law_odd_one) (defBody s_law_odd_one) (defScope s_law_odd_one) .none kV6 dc6 pm6 an6 cd6 ct6), sl6⟩) (c6 : PySem.W.codeIn K cd6 "_law_odd_one" = true) (k6 : PySem.W.keepIn K (.ref f6) = true)
    (a7 : PySem.W.nsIn K mainGlobals "_law_right" = some (some (.ref f7))) (l7 : K.lookup f7 = some ⟨oc7, od7, .func (PySem.W.fnOf "_law_right" "_law_right" (defArgs s_law_right) (defBody s_law_right) (defScope s_law_right) .none kV7 dc7 pm7 an7 cd7 ct7), sl7⟩) (c7 : PySem.W.codeIn K cd7 "_law_right" = true) (k7 : PySem.W.keepIn K (.ref f7) = true)
    (a8 : PySem.W.nsIn K mainGlobals "law" = some (some (.ref f8))) (l8 : K.lookup f8 = some ⟨oc8, od8, .func (PySem.W.fnOf "law" "law" (defArgs slaw) (defBody slaw) (defScope slaw) .none kV8 dc8 pm8 an8 cd8 ct8), sl8⟩) (c8 : PySem.W.codeIn K cd8 "law" = true) (k8 : PySem.W.keepIn K (.ref f8) = true)
    (z_isinstance : PySem.W.nsIn K mainGlobals "isinstance" = some none)
    (z_str : PySem.W.nsIn K mainGlobals "str" = some none)
    (z_len : PySem.W.nsIn K mainGlobals "len" = some none)
    (z_all : PySem.W.nsIn K mainGlobals "all" = some none)
    (z_int : PySem.W.nsIn K mainGlobals "int" = some none)
    (z_abs : PySem.W.nsIn K mainGlobals "abs" = some none)
    (z_max : PySem.W.nsIn K mainGlobals "max" = some none)
    (z_min : PySem.W.nsIn K mainGlobals "min" = some none)
    (z_range : PySem.W.nsIn K mainGlobals "range" = some none)
    (z_repr : PySem.W.nsIn K mainGlobals "repr" = some none)
    (y_MAX_LETTERS : PySem.W.nsIn K mainGlobals "MAX_LETTERS" = some (some (.int 8 t_MAX_LETTERS)))
    : ∃ fd : FuncData, (∀ (s : Shared) (v : Value), BindsTo s fd ⟨[v], []⟩ [("_law_script", v)]) ∧ ∀ base : Heap, K.In base → base.Ns mainGlobals mg → FnOk l.prog w K mg base CX0 5 fa fd ["_law_script"] (spLaw K) := by
  have e := hfa.symm.trans (PySem.W.mg_of X G a8)
  cases e
  have T : Txt mg := ⟨PySem.W.mg_none_of X G z_isinstance, PySem.W.mg_none_of X G z_str, PySem.W.mg_none_of X G z_len, PySem.W.mg_none_of X G z_all, PySem.W.mg_none_of X G z_int, PySem.W.mg_none_of X G z_abs, PySem.W.mg_none_of X G z_max, PySem.W.mg_none_of X G z_min, PySem.W.mg_none_of X G z_range, PySem.W.mg_none_of X G z_repr, ⟨_, PySem.W.mg_of X G y_MAX_LETTERS⟩⟩
  have F1 := fun_mk (st := sis_name) l1 c1 k1
  have b1 := F1.binds (ps := ["value"]) fun _ _ _ _ _ _ us hl => match us, hl with | [_], _ => rfl
  have F2 := fun_mk (st := s_law_numbers) l2 c2 k2
  have b2 := F2.binds (ps := ["_law_script", "_law_at"]) fun _ _ _ _ _ _ us hl => match us, hl with | [_, _], _ => rfl
  have F3 := fun_mk (st := s_law_cast) l3 c3 k3
  have b3 := F3.binds (ps := ["_law_die", "_law_total"]) fun _ _ _ _ _ _ us hl => match us, hl with | [_, _], _ => rfl
  have F4 := fun_mk (st := s_law_pick) l4 c4 k4
  have b4 := F4.binds (ps := ["_law_die", "_law_items"]) fun _ _ _ _ _ _ us hl => match us, hl with | [_, _], _ => rfl
  have F5 := fun_mk (st := s_law_is_word) l5 c5 k5
  have b5 := F5.binds (ps := ["_law_value"]) fun _ _ _ _ _ _ us hl => match us, hl with | [_], _ => rfl
  have F6 := fun_mk (st := s_law_odd_one) l6 c6 k6
  have b6 := F6.binds (ps := ["_law_die"]) fun _ _ _ _ _ _ us hl => match us, hl with | [_], _ => rfl
  have F7 := fun_mk (st := s_law_right) l7 c7 k7
  have b7 := F7.binds (ps := ["_law_die"]) fun _ _ _ _ _ _ us hl => match us, hl with | [_], _ => rfl
  have F8 := fun_mk (st := slaw) l8 c8 k8
  have b8 := F8.binds (ps := ["_law_script"]) fun _ _ _ _ _ _ us hl => match us, hl with | [_], _ => rfl
  refine ⟨PySem.W.fnOf "law" "law" (defArgs slaw) (defBody slaw) (defScope slaw) .none kV8 dc8 pm8 an8 cd8 ct8, fun s v => .of_eq rfl, fun base _ _ => ?_⟩
  have C1 : Cal l.prog w K mg base 1 "is_name" ["value"] spWord := ⟨_, _, ok_is_name F1 T, PySem.W.mg_of X G a1, k1, b1⟩
  have C2 : Cal l.prog w K mg base 1 "_law_numbers" ["_law_script", "_law_at"] (spNumbers K) := ⟨_, _, ok_numbers F2 T, PySem.W.mg_of X G a2, k2, b2⟩
  have C3 : Cal l.prog w K mg base 1 "_law_cast" ["_law_die", "_law_total"] spCast := ⟨_, _, ok_cast F3 T, PySem.W.mg_of X G a3, k3, b3⟩
  have C4 : Cal l.prog w K mg base 2 "_law_pick" ["_law_die", "_law_items"] (spPick K) := ⟨_, _, ok_pick F4 T C3, PySem.W.mg_of X G a4, k4, b4⟩
  have C5 : Cal l.prog w K mg base 1 "_law_is_word" ["_law_value"] spWord := ⟨_, _, ok_is_word F5 T, PySem.W.mg_of X G a5, k5, b5⟩
  have C6 : Cal l.prog w K mg base 3 "_law_odd_one" ["_law_die"] spOdd := ⟨_, _, ok_odd F6 T C4, PySem.W.mg_of X G a6, k6, b6⟩
  have C7 : Cal l.prog w K mg base 4 "_law_right" ["_law_die"] spRight := ⟨_, _, ok_right F7 T C3 C4 C6 C1 C5, PySem.W.mg_of X G a7, k7, b7⟩
  exact ok_law F8 T C2 C7 C1
end LC
open PySem PySem.W PyProof.Rows
set_option maxHeartbeats 0 in
theorem PySem.Challenge.cw_blockshanded_k01_names_holds : PySem.Challenge.rw_blockshanded_k01_names.Holds := by
  w_on; o_law; k_head; (case hw => w_witness2)
  k_fill
  refine L2.walk_of (l := PySem.Challenge.rw_blockshanded_k01_names) (n := 63) (k := 5) (x := "_law_script") (CX := fun _ => L2.CX0) (sp := fun w => LC.spLaw _) rfl (by decide) rfl ⟨rfl, by decide, by decide⟩ (fun w h Y => PySem.W.kIn_of Y) ?F (fun _ _ a ns hl _ hS => ⟨a, ns, rfl, hS, hl, fun _ => rfl⟩) (fun _ _ _ _ _ h => h)
  case F =>
    intro w mg fa h KX G hmg
    refine' LC.all_mk KX G hmg ?a1 ?l1 ?c1 ?k1 ?a2 ?l2 ?c2 ?k2 ?a3 ?l3 ?c3 ?k3 ?a4 ?l4 ?c4 ?k4 ?a5 ?l5 ?c5 ?k5 ?a6 ?l6 ?c6 ?k6 ?a7 ?l7 ?c7 ?k7 ?a8 ?l8 ?c8 ?k8 ?z_isinstance ?z_str ?z_len ?z_all ?z_int ?z_abs ?z_max ?z_min ?z_range ?z_repr ?y_MAX_LETTERS
    (case a1 => k_is)
    (case l1 => k_is)
    (case c1 => k_is)
    (case k1 => k_is)
    (case a2 => k_is)
    (case l2 => k_is)
    (case c2 => k_is)
    (case k2 => k_is)
    (case a3 => k_is)
    (case l3 => k_is)
    (case c3 => k_is)
    (case k3 => k_is)
    (case a4 => k_is)
    (case l4 => k_is)
    (case c4 => k_is)
    (case k4 => k_is)
    (case a5 => k_is)
    (case l5 => k_is)
    (case c5 => k_is)
    (case k5 => k_is)
    (case a6 => k_is)
    (case l6 => k_is)
    (case c6 => k_is)
    (case k6 => k_is)
    (case a7 => k_is)
    (case l7 => k_is)
    (case c7 => k_is)
    (case k7 => k_is)
    (case a8 => k_is)
    (case l8 => k_is)
    (case c8 => k_is)
    (case k8 => k_is)
    (case z_isinstance => k_is)
    (case z_str => k_is)
    (case z_len => k_is)
    (case z_all => k_is)
    (case z_int => k_is)
    (case z_abs => k_is)
    (case z_max => k_is)
    (case z_min => k_is)
    (case z_range => k_is)
    (case z_repr => k_is)
    (case y_MAX_LETTERS => k_is)

