import PyProof.Rows.All
import Wide.All
import OpenK.AllK
import Wide.FinOn
import HandS.ForMost
import HandS.IsInst
import HandS.RaiseMore
import HandS.Walk
import HandS.TupSets
import HandS.WideBits
import HandS.OwnEq
import HandS.Property
import HandS.MakeKwOnly
import HandS.FStr
import HandS.Sort
import KE.KCallOwn
import PyProof.InstNe
import PyProof.Rows.InDataRows
import HandS.Style
import HandS.Deep
import HandS.TupMul
import HandS.Conv
import KE.GoesMore
import HandS.Iter
import PySem.Challenge.RW_blockshanded_k23_errors_of_spaces
import PyProof.ReprRoads
import HandS.Base
import HandS.Call
import HandS.List
import HandS.Ends
import HandS.Exc
import HandS.Lambda
import HandS.EndTab
import HandS.Words
import HandS.WordsExc
import HandS.EndBits
import KE.KExcInit
import HandS.ExcInit
import HandS.ExcField
import KE.KExcIs
import HandS.TryMany
import HandS.ClsMeth
set_option Elab.async false
set_option linter.all false
set_option maxRecDepth 100000
set_option maxHeartbeats 6400000
/-! set(a tuple of tuples of ints), and its length -/
namespace SQ
open PySem PySem.Spec PyProof.Rows L2
section
variable {P : Program} {w : World} {A : Around} {E : Value → Shared → Prop} {s : Shared}
theorem none_at {h : Heap} {b : Addr} (hb : h.objs.size ≤ b) : h.get? b = none := by
  cases q : h.get? b with
  | none => rfl
  | some o => exact absurd (Nat.lt_of_lt_of_le (Heap.lt_size q) hb) (Nat.lt_irrefl _)
theorem made {l : Addr} {items : Array Value} {ks : List (Addr × List Int)} {Q : Value → Shared → Prop} (hh : A.handled = none) (hl : s.heap.IsTuple l items) (hit : items.toList = ks.map fun p => Value.ref p.1) (hk : ∀ p ∈ ks, IsT P w s.heap p.2 p.1) (few : ks.length < 64) (hu : A.units + 3 < cLine)
    (h : ∀ (h' : Heap) (tk : Nat) L es ep t, SetTR P w h' s.heap.objs.size L es ep t → L2.Got ks ks.length L → (∀ b o, s.heap.get? b = some o → h'.get? b = some o) → Q (.ref s.heap.objs.size) { s with heap := h', toks := tk }) :
    wpAny (model P w) A (call (.type "set") [.ref l]) Q E s := by
  have hisz : items.size = ks.length := by
    rw [← Array.length_toList, hit, List.length_map]
  obtain ⟨c, tl, hmro⟩ := PySem.F.called_set.mro
  have hmade := PySem.F.called_set.made
  have hsub := PySem.F.called_set.sub
  refine wpAny_call (codeAny_of_tree ?_)
  show wpAny _ _ (callAny (.type "set") _) _ _ _
  refine wpAny_pure ⟨Code.quiet_builtin _ (by decide +kernel), codeAny_builtin PySem.F.entry_type_call ?_⟩
  rw [Around.under_plain (weight_type_call_type "set" [.ref l] []) rfl]
  have h1 := PySem.F.called_set.notType
  have h2 := PySem.F.called_set.canCreate
  have hct := PySem.F.typeCall_set_1 (.ref l)
  repeat (any_goals (first | assumption | wp_step))
  refine codeAny_mono (L2.code_set_led1 (.ref l) (E := E) (Q₁ := fun obj s₁ => obj = .ref s.heap.objs.size ∧ s₁ = { s with heap := s.heap.push { cls := .type "set", dict := none, data := .set #[] 0 (.fresh 0 0 (!w.params.followText "set-order")) } }) ⟨rfl, rfl⟩) fun r s₁ hr => ?_
  cases r with
  | error e => exact hr
  | ok fl =>
    cases fl with
    | ret obj =>
      obtain ⟨rfl, rfl⟩ := hr
      have hS : (s.heap.push { cls := .type "set", dict := none, data := .set #[] 0 (.fresh 0 0 (!w.params.followText "set-order")) }).get? s.heap.objs.size = some { cls := .type "set", dict := none, data := .set #[] 0 (.fresh 0 0 (!w.params.followText "set-order")) } := Heap.get?_push_size _ rfl
      have hT : Shared.TypeIs { s with heap := s.heap.push { cls := .type "set", dict := none, data := .set #[] 0 (.fresh 0 0 (!w.params.followText "set-order")) } } (.ref s.heap.objs.size) "set" := ⟨_, hS, rfl⟩
      have hli := PySem.F.called_set.init.lookup
      have hbi := PySem.F.called_set.init.bind (.ref s.heap.objs.size)
      repeat (any_goals (first | assumption | wp_step))
      refine codeAny_mono (codeAny_call_builtin (R := wants (fun r s₂ => r = .none ∧ ∃ h' tk L es ep t, s₂ = { s with heap := h', toks := tk } ∧ SetTR P w h' s.heap.objs.size L es ep t ∧ L2.Got ks ks.length L ∧
          (∀ b o, s.heap.get? b = some o → h'.get? b = some o)) E) PySem.F.called_set.init.plain PySem.F.entry_set_init (check_set_init_1 hT ?_)) fun r₂ s₂ hr₂ => ?_
      · obtain ⟨ol, hol, hcl, nl, hdl⟩ := hl
        obtain ⟨ocls, odict, odata, oslots⟩ := ol
        simp only at hcl hdl
        subst hcl; subst hdl
        have hol' : (s.heap.push { cls := .type "set", dict := none, data := .set #[] 0 (.fresh 0 0 (!w.params.followText "set-order")) }).get? l = some { cls := .type "tuple", dict := odict, data := .seq items nl, slots := oslots } := Heap.get?_push_of_some _ hol
        have hsls := PySem.F.sub_tuple_set
        have hslf := PySem.F.sub_tuple_frozenset
        have hne : (Value.type "tuple" == Value.type "dict") = false := by decide
        have hl1 : (s.heap.push { cls := .type "set", dict := none, data := .set #[] 0 (.fresh 0 0 (!w.params.followText "set-order")) }).IsTuple l items := ⟨_, hol', rfl, nl, rfl⟩
        unfold Builtin.«set.__init__» noKeywords Builtin.Frozenset.updateFrom
        generalize hPI : pyIter = PI
        wp_walk
        subst hPI
        refine wpAny_pyIter_tuple hl1 ?_
        refine wpAny_bind (wpAny_runValue ?_)
        have hlS : l < s.heap.objs.size := Heap.lt_size hol
        have hh3 : A.in1.in1.in1.handled = none := by simp [hh]
        have hneI : l ≠ (s.heap.push { cls := .type "set", dict := none, data := .set #[] 0 (.fresh 0 0 (!w.params.followText "set-order")) }).objs.size := by
          rw [Heap.size_push]; exact Nat.ne_of_lt (Nat.lt_succ_of_lt hlS)
        have hSf : s.heap.objs.size ∉ [(s.heap.push { cls := .type "set", dict := none, data := .set #[] 0 (.fresh 0 0 (!w.params.followText "set-order")) }).objs.size, l] := by
          rw [Heap.size_push]; simp only [List.mem_cons, List.not_mem_nil, or_false, not_or]
          exact ⟨Nat.ne_of_lt (Nat.lt_succ_self _), Nat.ne_of_gt hlS⟩
        have hval : ∀ (i : Nat) (v : Value), items[i]? = some v → ∃ p, ks[i]? = some p ∧ v = .ref p.1 := fun i v hv => by
          have q : items.toList[i]? = some v := by rw [Array.getElem?_toList]; exact hv
          rw [hit, List.getElem?_map] at q
          obtain ⟨p, e1, e2⟩ := Option.map_eq_some_iff.mp q
          exact ⟨p, e1, e2.symm⟩
        refine set_update_tups ((Walks.tuple hh3 _ l hneI items).toS) s.heap.objs.size
          hSf ks hisz few hval s.heap hk (none_at (Nat.le_refl _)) (fun b hb => none_at (by
            rw [List.mem_singleton.mp hb, Heap.size_push]
            exact Nat.le_succ _)) hu (items.size - 0) 0 _ (by omega) (Nat.zero_le _)
          ⟨⟨_, Heap.get?_push_size _ rfl, rfl, rfl⟩, (hl1.push _)⟩ (fun b o e => Heap.get?_push_of_some _ (Heap.get?_push_of_some _ e)) ?hS0 ?hR
        case hS0 => exact ⟨[], #[], 0, _, setTR_fresh (Heap.get?_push_of_some _ hS), L2.Got.zero ks⟩
        case hR =>
          intro s' L es ep t hm hS' g' hkp
          obtain ⟨h', g2, d', tk', os'⟩ := s'
          have eg : g2 = s.gens := hm.gens
          have ed : d' = s.drawn := hm.drawn
          have eo : os' = s.os := hm.os
          subst eg; subst ed; subst eo
          show wpAny _ _ _ _ _ _
          refine wpAny_pure ?_
          show wpAny _ _ (ret Value.none) _ _ _
          rw [hisz] at g'
          exact wpAny_pure ⟨rfl, h', tk', L, es, ep, t, rfl, hS', g', hkp⟩
      · cases r₂ with
        | error e => exact hr₂
        | ok fl₂ =>
          cases fl₂ with
          | ret r =>
            obtain ⟨rfl, h', tk, L, es, ep, t, rfl, hS', g', hk'⟩ := hr₂
            repeat (any_goals (first | assumption | wp_step))
            exact h _ _ _ _ _ _ hS' g' hk'
          | _ => exact hr₂.elim
    | _ => exact hr.elim
end
section
variable {X : Cx}
theorem nodup_few {α : Type} [DecidableEq α] : ∀ (l D : List α), l.Nodup → (∀ x ∈ l, x ∈ D) → l.length ≤ D.length
  | [], _, _, _ => Nat.zero_le _
  | x :: l, D, hn, hs => by
    have ⟨h1, h2⟩ := List.nodup_cons.mp hn
    have hx : x ∈ D := hs x (.head _)
    have ih := nodup_few l (D.erase x) h2 fun y hy => (List.mem_erase_of_ne (by intro e; subst e; exact h1 hy)).2 (hs y (.tail _ hy))
    have e := List.length_erase_of_mem hx
    have hp := List.length_pos_of_mem hx
    simp only [List.length_cons]
    omega
theorem got_len {ks L : List (Addr × List Int)} {i : Nat} (g : L2.Got ks i L) (hi : i ≤ ks.length) (nd : (ks.map (·.2)).Nodup) (nl : (L.map (·.2)).Nodup) : L.length = i := by
  refine Nat.le_antisymm g.len ?_
  have h1 : (ks.take i).map (·.2) ⊆ L.map (·.2) := fun x hx => by
    obtain ⟨p, hp, rfl⟩ := List.mem_map.mp hx
    exact g.all p hp
  have h2 : ((ks.take i).map (·.2)).Nodup := by
    rw [List.map_take]
    exact List.Sublist.nodup (List.take_sublist _ _) nd
  have h3 := nodup_few _ _ h2 h1
  rw [List.length_map, List.length_map, List.length_take] at h3
  omega
/-- len(set(t)), t a tuple of tuples of ints, all different -/
def tLenSetT (K : PySem.W.Frag) (ta : TE) : TE := fun σ H Q => ta σ H fun x H1 => ∃ (l : Addr) (ks : List (Addr × List Int)), x = V.ref l ∧ SqT K H1 l (ks.map fun p => V.ref p.1) ∧ (∀ p ∈ ks, SqT K H1 p.1 (p.2.map V.int)) ∧ ks.length < 64 ∧ (ks.map (·.2)).Nodup ∧ Q (.int ks.length) H1
theorem pe_lenSetT {a : Expr} {ta : TE} {p p2 q pos : Pos} (hc : X.calm = true) (hu : X.A.units + 64 < cLine) (hg : Gl X "len") (hm : X.mg "len" = none) (hg2 : Gl X "set") (hm2 : X.mg "set" = none) (ha : PE X a ta)
    (na : starEach [a] X.env = (false, eval a X.env) :: starEach [] X.env := by rfl) : PE X (.Call (.Name "len" p) [.Call (.Name "set" p2) [a] [] q] [] pos) (tLenSetT X.K ta) := by
  refine ⟨fun pins s σ H Q I h => ?_⟩
  refine Call_ (ld_blt I hg hm PySem.boot_len ?_)
  refine PyProof.Rows.callWith_builtin1 (PyProof.Rows.args_cons ?_ rfl) rfl rfl
  refine Call_ (ld_blt I hg2 hm2 PyProof.Rows.boot_set ?_)
  refine PyProof.Rows.callWith_type1 (PyProof.Rows.args_cons (thn (ha.run pins s σ H _ I h) fun v s1 ⟨x, H1, I1, r1, q1⟩ => PyProof.Rows.args_nil ?_) na) na rfl
  obtain ⟨l, ks, rfl, hq, hk, h1, hnd, q1⟩ := q1
  cases r1
  obtain ⟨its, rv, pl, hz⟩ := I1.tuple hq
  refine made (P := X.prog) (w := X.w) (ks := ks) (I1.ok.hd hc) pl (by simpa using refs_of_vals rv) (fun p hp => I1.isT (hk p hp)) h1 (by omega) fun h' tk L es ep t R g k => ?_
  refine PyProof.Rows.args_nil ?_
  have hL := got_len g (Nat.le_refl _) hnd R.nd
  have I2 : Inv X pins σ H1 { s1 with heap := h', toks := tk } := I1.kept fun b o e => k b o e
  obtain ⟨o, ho, hex, hd⟩ := R.ob
  refine call_len_set ho hex hd (SetTR.fits (s := { s1 with heap := h', toks := tk }) R) (by rw [SetTR.size (s := { s1 with heap := h', toks := tk }) R, hL]; omega) ⟨.int ks.length, H1, I2.tok _, ⟨_, by rw [SetTR.size (s := { s1 with heap := h', toks := tk }) R, hL]⟩, q1⟩
end
end SQ

/-! relations as numbers, and as lists of pairs -/
set_option linter.all false
namespace SQ
def orP : List Nat → Nat
  | [] => 0
  | b :: r => 2 ^ b ||| orP r
theorem orP_bit : ∀ (l : List Nat) (i : Nat), (orP l).testBit i = decide (i ∈ l)
  | [], i => by simp [orP]
  | b :: r, i => by
    show (2 ^ b ||| orP r).testBit i = _
    rw [Nat.testBit_or, Nat.testBit_two_pow, orP_bit r i]
    simp only [List.mem_cons, Bool.decide_or]
    congr 1
    exact decide_eq_decide.mpr eq_comm
theorem add_or {x b : Nat} (h : x.testBit b = false) : 2 ^ b + x = 2 ^ b ||| x := by
  have hr : x % 2 ^ (b + 1) < 2 ^ b := by
    refine Nat.lt_pow_two_of_testBit _ fun i hi => ?_
    rw [Nat.testBit_mod_two_pow]
    by_cases e : i = b
    · subst e
      rw [h, Bool.and_false]
    · rw [decide_eq_false (by omega), Bool.false_and]
  have hx : 2 ^ (b + 1) * (x / 2 ^ (b + 1)) + x % 2 ^ (b + 1) = x := Nat.div_add_mod _ _
  generalize x % 2 ^ (b + 1) = r at hr hx
  generalize x / 2 ^ (b + 1) = q at hx
  have e1 : 2 ^ b + r = 2 ^ b ||| r := by
    have := Nat.two_pow_add_eq_or_of_lt hr 1
    rwa [Nat.mul_one] at this
  have hp : 2 ^ (b + 1) = 2 ^ b * 2 := Nat.pow_succ ..
  have e2 : 2 ^ (b + 1) * q + (2 ^ b + r) = 2 ^ (b + 1) * q ||| (2 ^ b + r) := Nat.two_pow_add_eq_or_of_lt (by omega) q
  have e3 : 2 ^ (b + 1) * q + r = 2 ^ (b + 1) * q ||| r := Nat.two_pow_add_eq_or_of_lt (by omega) q
  have e4 : 2 ^ b + x = 2 ^ (b + 1) * q + (2 ^ b + r) := by omega
  rw [e4, e2, e1, ← hx, e3, ← Nat.or_assoc, ← Nat.or_assoc, Nat.or_comm (2 ^ (b + 1) * q)]
theorem sum_orP : ∀ {l : List Nat}, l.Nodup → (l.map (2 ^ ·)).sum = orP l
  | [], _ => rfl
  | b :: r, h => by
    have ⟨h1, h2⟩ := List.nodup_cons.mp h
    rw [List.map_cons, List.sum_cons, sum_orP h2, add_or (by rw [orP_bit]; exact decide_eq_false h1)]
    rfl
theorem orP_mem {l m : List Nat} (h : ∀ x, x ∈ l ↔ x ∈ m) : orP l = orP m := Nat.eq_of_testBit_eq fun i => by rw [orP_bit, orP_bit]; exact decide_eq_decide.mpr (h i)
theorem orP_app (l m : List Nat) : orP (l ++ m) = orP l ||| orP m := Nat.eq_of_testBit_eq fun i => by
  rw [Nat.testBit_or, orP_bit, orP_bit, orP_bit, ← Bool.decide_or]
  exact decide_eq_decide.mpr List.mem_append
abbrev Pr := Nat × Nat
def cd (e : Nat) (p : Pr) : Nat := p.1 * e + p.2
def bitsN (e : Nat) (ps : List Pr) : Nat := orP (ps.map (cd e))
def prs (e r : Nat) : List Pr := ((List.range 12).filter fun b => r.testBit b).map fun b => (b / e, b % e)
theorem cd_div {e : Nat} (b : Nat) : cd e (b / e, b % e) = b := by
  show b / e * e + b % e = b
  rw [Nat.mul_comm]
  exact Nat.div_add_mod b e
theorem cd_fst {e : Nat} {p : Pr} (h : p.2 < e) : cd e p / e = p.1 := by
  show (p.1 * e + p.2) / e = p.1
  rw [Nat.mul_comm, Nat.mul_add_div (by omega), Nat.div_eq_of_lt h, Nat.add_zero]
theorem cd_snd {e : Nat} {p : Pr} (h : p.2 < e) : cd e p % e = p.2 := by
  show (p.1 * e + p.2) % e = p.2
  rw [Nat.mul_comm, Nat.mul_add_mod, Nat.mod_eq_of_lt h]
theorem mem_prs {e r : Nat} (he : 0 < e) {p : Pr} : p ∈ prs e r ↔ p.2 < e ∧ cd e p < 12 ∧ r.testBit (cd e p) = true := by
  unfold prs
  rw [List.mem_map]
  constructor
  · rintro ⟨b, hb, rfl⟩
    rw [List.mem_filter, List.mem_range] at hb
    rw [cd_div]
    exact ⟨Nat.mod_lt _ he, hb⟩
  · rintro ⟨h1, h2, h3⟩
    refine ⟨cd e p, List.mem_filter.mpr ⟨List.mem_range.mpr h2, h3⟩, ?_⟩
    rw [cd_fst h1, cd_snd h1]
theorem cd_prs (e r : Nat) : (prs e r).map (cd e) = (List.range 12).filter fun b => r.testBit b := by
  unfold prs
  rw [List.map_map]
  conv => rhs; rw [← List.map_id ((List.range 12).filter fun b => r.testBit b)]
  exact List.map_congr_left fun b _ => cd_div b
theorem bit_lt {r i : Nat} (hr : r < 4096) (h : r.testBit i = true) : i < 12 := by
  refine Nat.lt_of_not_le fun hi => ?_
  rw [Nat.testBit_lt_two_pow (Nat.lt_of_lt_of_le hr (Nat.pow_le_pow_right (n := 2) (by decide) hi))] at h
  cases h
theorem bits_prs {e r : Nat} (hr : r < 4096) : bitsN e (prs e r) = r := Nat.eq_of_testBit_eq fun i => by
  unfold bitsN
  rw [orP_bit, cd_prs]
  cases h : r.testBit i with
  | true => exact decide_eq_true (List.mem_filter.mpr ⟨List.mem_range.mpr (bit_lt hr h), h⟩)
  | false => exact decide_eq_false fun z => by rw [(List.mem_filter.mp z).2] at h; cases h
theorem bits_mem {e : Nat} {ps qs : List Pr} (h : ∀ x, x ∈ ps ↔ x ∈ qs) : bitsN e ps = bitsN e qs := orP_mem fun x => by
  simp only [List.mem_map, h]
theorem bits_app (e : Nat) (ps qs : List Pr) : bitsN e (ps ++ qs) = bitsN e ps ||| bitsN e qs := by
  unfold bitsN
  rw [List.map_append, orP_app]
theorem prs_nodup (e r : Nat) : (prs e r).Nodup := by
  have h : ((prs e r).map (cd e)).Nodup := by
    rw [cd_prs]
    exact List.Pairwise.filter _ List.nodup_range
  exact List.Pairwise.of_map (cd e) (fun a b hne e => hne (congrArg _ e)) h
theorem prs_len (e r : Nat) : (prs e r).length ≤ 12 := by
  unfold prs
  rw [List.length_map]
  exact Nat.le_trans (List.length_filter_le _ _) (by rw [List.length_range]; exact Nat.le_refl _)
theorem prs_small {m e r : Nat} (he : 0 < e) (hr : r < 2 ^ (m * e)) {p : Pr} (h : p ∈ prs e r) : p.1 < m ∧ p.2 < e := by
  obtain ⟨h1, _, h3⟩ := (mem_prs he).mp h
  refine ⟨?_, h1⟩
  have hb : cd e p < m * e := by
    refine Nat.lt_of_not_le fun hi => ?_
    rw [Nat.testBit_lt_two_pow (Nat.lt_of_lt_of_le hr (Nat.pow_le_pow_right (n := 2) (by decide) hi))] at h3
    cases h3
  refine Nat.lt_of_not_le fun hm => ?_
  have := Nat.mul_le_mul_right e hm
  have e1 : cd e p = p.1 * e + p.2 := rfl
  omega
/-- the program looks at fewer bits -/
theorem few_bits {r k : Nat} (hk : k ≤ 12) (hr : r < 2 ^ k) : (List.range k).filter (fun b => r.testBit b) = (List.range 12).filter fun b => r.testBit b := by
  have e : List.range 12 = List.range k ++ (List.range (12 - k)).map (k + ·) := by
    rw [show 12 = k + (12 - k) by omega, List.range_add, show k + (12 - k) - k = 12 - k by omega]
  rw [e, List.filter_append]
  have z : ((List.range (12 - k)).map (k + ·)).filter (fun b => r.testBit b) = [] := by
    refine List.filter_eq_nil_iff.mpr fun b hb => ?_
    obtain ⟨c, _, rfl⟩ := List.mem_map.mp hb
    rw [Nat.testBit_lt_two_pow (Nat.lt_of_lt_of_le hr (Nat.pow_le_pow_right (by decide) (Nat.le_add_right k c)))]
    decide
  rw [z, List.append_nil]
theorem within_iff {e r s : Nat} (he : 0 < e) (hr : r < 4096) : ((prs e r).filter fun p => decide (p ∉ prs e s)) = [] ↔ r ||| s = s := by
  constructor
  · intro h
    refine Nat.eq_of_testBit_eq fun i => ?_
    rw [Nat.testBit_or]
    cases hi : r.testBit i with
    | false => rfl
    | true =>
      have hl := bit_lt hr hi
      have m : (i / e, i % e) ∈ prs e r := (mem_prs he).mpr ⟨Nat.mod_lt _ he, by rw [cd_div]; exact ⟨hl, hi⟩⟩
      have := List.filter_eq_nil_iff.mp h _ m
      have q : (i / e, i % e) ∈ prs e s := Classical.byContradiction fun z => this (decide_eq_true z)
      have := ((mem_prs he).mp q).2.2
      rw [cd_div] at this
      rw [this]
      rfl
  · intro h
    refine List.filter_eq_nil_iff.mpr fun p hp => ?_
    rw [decide_eq_true_eq]
    intro z
    obtain ⟨h1, h2, h3⟩ := (mem_prs he).mp hp
    refine z ((mem_prs he).mpr ⟨h1, h2, ?_⟩)
    rw [← h, Nat.testBit_or, h3, Bool.true_or]
theorem or_lt {a b k : Nat} (ha : a < 2 ^ k) (hb : b < 2 ^ k) : a ||| b < 2 ^ k := Nat.or_lt_two_pow ha hb
/-- the relation of all pairs (m, m) -/
def sameN (m e : Nat) : Nat := orP ((List.range m).map fun i => i * e + i)
end SQ
namespace SQ
theorem cast_sum (l : List Nat) : (l.map fun n : Nat => (n : Int)).sum = ((l.sum : Nat) : Int) := by
  induction l with
  | nil => rfl
  | cons x r ih => rw [List.map_cons, List.sum_cons, List.sum_cons, ih, Int.natCast_add]
theorem diag_nodup (m e : Nat) : ((List.range m).map fun i => i * e + i).Nodup := by
  rw [List.nodup_iff_pairwise_ne, List.pairwise_map]
  refine List.Pairwise.imp (fun {a b} h z => ?_) List.pairwise_lt_range
  have := Nat.mul_le_mul_right e (Nat.le_of_lt h)
  omega
theorem same_sum (m e : Nat) : ((List.range m).map fun i => ((2 ^ (i * e + i) : Nat) : Int)).sum = ((sameN m e : Nat) : Int) := by
  have h := sum_orP (diag_nodup m e)
  rw [List.map_map] at h
  rw [show sameN m e = orP ((List.range m).map fun i => i * e + i) from rfl, ← h, ← cast_sum, List.map_map]
  rfl
end SQ
namespace SQ
theorem and_bit (r i : Nat) : (r / 2 ^ i &&& 1) = (r.testBit i).toNat := by
  rw [Nat.testBit_eq_decide_div_mod_eq, Nat.and_one_is_mod]
  rcases Nat.mod_two_eq_zero_or_one (r / 2 ^ i) with h | h <;> rw [h] <;> rfl
theorem bit_ne (b : Bool) : (((b.toNat : Nat) : Int) != 0) = b := by cases b <;> rfl
end SQ
namespace SQ
theorem nodup_map {α β : Type} {f : α → β} {l : List α} (inj : ∀ a b, f a = f b → a = b) (h : l.Nodup) : (l.map f).Nodup := by
  rw [List.nodup_iff_pairwise_ne, List.pairwise_map]
  exact List.Pairwise.imp (fun n e => n (inj _ _ e)) h
theorem nodup_on {α β : Type} {f : α → β} : ∀ {l : List α}, (∀ a ∈ l, ∀ b ∈ l, f a = f b → a = b) → l.Nodup → (l.map f).Nodup
  | [], _, _ => List.nodup_nil
  | x :: r, inj, h => by
    have ⟨h1, h2⟩ := List.nodup_cons.mp h
    refine List.nodup_cons.mpr ⟨fun m => ?_, nodup_on (fun a ha b hb => inj a (.tail _ ha) b (.tail _ hb)) h2⟩
    obtain ⟨y, hy, e⟩ := List.mem_map.mp m
    exact h1 (inj y (.tail _ hy) x (.head _) e ▸ hy)
theorem nodup_codes {e m : Nat} {ps : List Pr} (h : ∀ x ∈ ps, x.1 < m ∧ x.2 < e) (nd : ps.Nodup) : (ps.map (cd e)).Nodup := nodup_on (fun a ha b hb z => by
  have ea := (h a ha).2
  have eb := (h b hb).2
  have h1 := cd_fst ea
  have h2 := cd_snd ea
  rw [z] at h1 h2
  exact Prod.ext (h1.symm.trans (cd_fst eb)) (h2.symm.trans (cd_snd eb))) nd
theorem bits_sum {α : Type} {e : Nat} (ks : List (α × Pr)) (nd : ((ks.map (·.2)).map (cd e)).Nodup) : (ks.map fun q => ((2 ^ cd e q.2 : Nat) : Int)).sum = ((bitsN e (ks.map (·.2)) : Nat) : Int) := by
  have h := sum_orP nd
  rw [List.map_map, List.map_map] at h
  rw [show bitsN e (ks.map (·.2)) = orP ((ks.map (·.2)).map (cd e)) from rfl, ← h, ← cast_sum, List.map_map]
  rfl
end SQ
namespace SQ
theorem perm_back {α β : Type} {f : α → β} {xs ys : List β} (h : xs.Perm ys) : ∀ {l : List α}, ys = l.map f → ∃ l' : List α, xs = l'.map f ∧ l'.Perm l := by
  induction h with
  | nil =>
    intro l e
    cases l with
    | nil => exact ⟨[], rfl, .refl _⟩
    | cons x r => cases e
  | cons x _ ih =>
    intro l e
    cases l with
    | nil => cases e
    | cons y r =>
      rw [List.map_cons] at e
      injection e with e1 e2
      obtain ⟨l', h1, h2⟩ := ih e2
      exact ⟨y :: l', by rw [List.map_cons, h1, e1], h2.cons y⟩
  | swap x y l0 =>
    intro l e
    match l, e with
    | u :: v :: r, e =>
      simp only [List.map_cons] at e
      injection e with e1 e2
      injection e2 with e2 e3
      exact ⟨v :: u :: r, by simp only [List.map_cons]; rw [e1, e2, e3], .swap _ _ _⟩
  | trans _ _ ih1 ih2 =>
    intro l e
    obtain ⟨l2, h1, h2⟩ := ih2 e
    obtain ⟨l3, h3, h4⟩ := ih1 h1
    exact ⟨l3, h3, h4.trans h2⟩
end SQ

set_option Elab.async false
set_option linter.all false
set_option maxRecDepth 100000
set_option maxHeartbeats 4000000
/-! own classes: ==, !=, str by their own defs; ranges as values; whole numbers from 0 on -/
namespace SQ
open PySem PySem.Spec PyProof.Rows L2
section
variable {X : Cx} {pins : List (Addr × Obj)} {σ : L2.St} {H : Hp} {s : Shared} {n : Nat} {A : Around} {CX : CXT} {C f : Addr} {fd : FuncData} {ps : List Str} {sp : Sp} {E : XK}
theorem looks_ty {x : V} {u t : Value} (I : Inv X pins σ H s) (rx : RelV x u) (ty : TyX X.K H x t) : PySem.W.Looks (model X.prog X.w) s.heap (typeOf u) t := by
  obtain ⟨P, k, p, _⟩ := kit_of I rx ty
  exact k.ty _ _ I.kIn p
theorem run_at {vs : List V} {us : List Value} {Q : VK} (sb : Sub X n A) (I : Inv X pins σ H s) (F : FnOk X.prog X.w X.K X.mg X.base CX n f fd ps sp) (hb : Binds X.K fd ps []) (hx : Passes CX X E) (r : Vals vs us) (h : sp vs H Q E) :
    wpAny (model X.prog X.w) A (call (.ref f) us) (fun u s' => ∃ v H', Inv X pins σ H' s' ∧ RelV v u ∧ Q v H') X.xe s := by
  have e0 : Env0 X.prog X.w X.K X.mg X.base A X.stack s H := by
    have e := I.env0
    exact ⟨by rw [sb.fr]; exact e.frames, e.mod, e.bs, e.bsz, e.funs, e.frf, e.hok, e.bare⟩
  have hl := F.len _ _ _ _ h
  refine wpAny_call (codeAny_mono (F.run A X.stack s H ⟨us, []⟩ us vs Q E sb.room e0 (by
    have := hb s us I.kIn (by rw [List.append_nil, ← r.length]; exact hl)
    simpa using this) r h) fun r s' hq => ?_)
  cases r with
  | error e => exact hx pins σ H s e s' I hq
  | ok fl =>
    cases fl with
    | ret w =>
      obtain ⟨z, H', I', rz, q⟩ := I.after hq
      exact ⟨z, H', I', rz, q⟩
    | next => exact False.elim hq
    | brk => exact False.elim hq
    | cont => exact False.elim hq
/-- x == y by the text's own == -/
def rEqO (K : PySem.W.Frag) (C : Addr) (sp : Sp) (E : XK) (neg : Bool) : R2 := fun x y H Q => ∃ a dx fs tb, x = .ref a ∧ H a = some (.ins C dx fs) ∧ TyX K H y tb ∧ PySem.W.notFirst K C tb = true ∧ sp [.ref a, y] H (fun v H' => ∃ b, v = .bl b ∧ Q (.bl (if neg then !b else b)) H') E
theorem op_eqOwn (hr : Room n X.A) (F : FnOk X.prog X.w X.K X.mg X.base CX n f fd ps sp) (hs : PySem.W.findIn X.K (.ref C) "__eq__" = some (some (.ref f))) (hf : PySem.W.isFn X.K (.ref f) = true) (hb : Binds X.K fd ps []) (hx : Passes CX X E) :
    OpR X (compareOp .Eq) (rEqO X.K C sp E false) := by
  intro pins s σ H x y v u Q I rx ry hq
  obtain ⟨a, dx, fs, tb, rfl, ha, ty, nf, q⟩ := hq
  cases rx
  obtain ⟨mA, J, _⟩ := ins_get I.hok ha
  obtain ⟨od, J, _⟩ := J.look
  obtain ⟨m, hF⟩ := I.fr
  show wpAny (model X.prog X.w) X.A (richCompare .Eq (.ref a) u) (EP X pins σ Q) X.xe s
  refine PySem.W.cmp_K (op := .Eq) (tb := tb) hr.units0 hF I.ok.mod.kin J (looks_ty I ry ty) nf hs hf ?_
  refine wpAny_mono (run_at ⟨hr, rfl⟩ I F hb hx (.cons (show RelV (V.ref a) (Value.ref a) from rfl) (.cons ry .nil)) q) (fun w s' h => ?_) fun _ _ z => z
  obtain ⟨z, H', I', rz, b, rfl, q2⟩ := h
  cases rz
  exact ⟨.bl b, H', I', rfl, q2⟩
theorem obj_ne {x : Addr} {b : Value} {ox : Obj} {od : Option Obj} {Q : Fin → Shared → Prop} (hu : A.units < cLine) (I : PySem.W.InstAt s.heap x ox C od) (K : PySem.W.Frag) (X0 : K.In s.heap)
    (hs : PySem.W.findIn K (.ref C) "__eq__" = some (some (.ref f))) (hf : PySem.W.isFn K (.ref f) = true) {E : Value → Shared → Prop} {prog : Program} {w : World}
    (h : wpAny (model prog w) A (call (.ref f) [.ref x, b]) (fun v s' => ∃ r, v = .bool r ∧ Q (.done (.ret (.bool (!r)))) s') E s) : wpAny (model prog w) A (Builtin.«object.__ne__» ⟨[.ref x, b], []⟩) Q E s := by
  unfold Builtin.«object.__ne__»
  refine wpAny_bind (m := slotArgs "__ne__" 1 _) (wpAny_pure ?_)
  refine wpAny_bind (m := cRoomFor _ _) (wpAny_cRoomFor hu ?_)
  refine wpAny_bind (m := callSpecialIfBound? (.ref x) (Str.ofString "__eq__") [b]) (PySem.W.ifBound_K X0 I hs hf (wpAny_mono h (fun v s' hv => ?_) fun _ _ y => y))
  obtain ⟨r, rfl, q⟩ := hv
  exact wpAny_bind (wpAny_truthy_bool (wpAny_pure q))
theorem ifBound_B {M : Model} {x : Addr} {ox : Obj} {od : Option Obj} {K : PySem.W.Frag} {name : Str} {id : String} {args : List Value} {Q : Option Value → Shared → Prop} {E : Value → Shared → Prop} (X0 : K.In s.heap) (I : PySem.W.InstAt s.heap x ox C od) (hs : PySem.W.findIn K (.ref C) name = some (some (.builtin id)))
    (hb : ∀ self, bindSpecial (.builtin id) self = pure (.builtin id, [self])) (h : wpAny M A (call (.builtin id) (.ref x :: args)) (fun v => Q (some v)) E s) : wpAny M A (callSpecialIfBound? (.ref x) name args) Q E s := by
  simp only [callSpecialIfBound?, bindSpecialIfBound?]
  refine wpAny_holding (wpAny_bind (wpAny_bind (wpAny_bind (I.type.here ((PySem.W.looks_findIn X0 hs).here ?_)))))
  refine wpAny_bind (wpAny_askSetting (wpAny_ite ?_))
  have fin : wpAny M A (call (.builtin id) ([.ref x] ++ args) >>= fun v => pure (some v)) Q E s := wpAny_bind (wpAny_mono h (fun v s' h' => wpAny_pure h') fun _ _ h' => h')
  split
  · exact wpAny_bind ((PySem.W.Looks.of_pure (hb _)).here (wpAny_pure (by exact fin)))
  · exact wpAny_tryCatch (wpAny_bind ((PySem.W.Looks.of_pure (hb _)).here (wpAny_pure (by exact fin))))
theorem op_neOwn (hr : Room (n + 1) X.A) (F : FnOk X.prog X.w X.K X.mg X.base CX n f fd ps sp) (hs : PySem.W.findIn X.K (.ref C) "__eq__" = some (some (.ref f))) (hf : PySem.W.isFn X.K (.ref f) = true) (hb : Binds X.K fd ps []) (hx : Passes CX X E)
    (hn : PySem.W.findIn X.K (.ref C) "__ne__" = some (some (.builtin "object.__ne__"))) (hm : PySem.W.mroIn X.K C (.type "object") = some true) : OpR X (compareOp .NotEq) (rEqO X.K C sp E true) := by
  intro pins s σ H x y v u Q I rx ry hq
  obtain ⟨a, dx, fs, tb, rfl, ha, ty, nf, q⟩ := hq
  cases rx
  obtain ⟨mA, J, _⟩ := ins_get I.hok ha
  obtain ⟨od, J, _⟩ := J.look
  have X0 := I.kIn
  have lt := looks_ty I ry ty
  have one : wpAny (model X.prog X.w) X.A (tryCompare (.ref a) (cmpInfo .NotEq).2.1 u) (fun r s' => ∃ v, r = some v ∧ EP X pins σ Q v s') X.xe s := by
    unfold tryCompare
    refine wpAny_bind (ifBound_B X0 J hn PySem.F.slot_object_ne.bind ?_)
    refine wpAny_call (codeAny_call_builtin PySem.F.slot_object_ne.plain PySem.F.cmpEntry_ne (PySem.W.check_slot (i := "object.__ne__") (owner := "object") (n := "__ne__") PySem.F.cmpKind_ne PySem.F.cmpSplit_ne (J.type.andThen (PySem.W.looks_mroIn X0 hm)) (PySem.F.cmpArgs_ne _ _) ?_))
    refine obj_ne hr.in1.units0 J X.K X0 hs hf ?_
    refine wpAny_mono (run_at ⟨hr.in1, rfl⟩ I F hb hx (.cons (show RelV (V.ref a) (Value.ref a) from rfl) (.cons ry .nil)) q) (fun w s' h => ?_) fun _ _ z => z
    obtain ⟨z, H', I', rz, b, rfl, q2⟩ := h
    cases rz
    exact ⟨b, rfl, wpAny_pure ⟨_, rfl, .bl (!b), H', I', rfl, q2⟩⟩
  show wpAny (model X.prog X.w) X.A (richCompare .NotEq (.ref a) u) (EP X pins σ Q) X.xe s
  unfold richCompare
  simp only [oneThing_ref]
  refine wpAny_holding (wpAny_bind (wpAny_cRoomFor hr.units0 ?_))
  refine wpAny_bind (J.type.here (wpAny_bind (lt.here ?_)))
  split
  · rename_i q
    have e : PySem.W.subIn X.K tb (.ref C) = some false := by
      rcases Bool.or_eq_true_iff.mp nf with e | e
      · rw [beq_iff_eq.mp e] at q; simp at q
      · exact beq_iff_eq.mp e
    refine wpAny_bind ((PySem.W.looks_subIn X0 e).here ?_)
    simp only [Bool.false_eq_true, if_false]
    refine wpAny_bind (wpAny_mono one (fun r s' z => ?_) fun _ _ e => e)
    obtain ⟨v, rfl, hq⟩ := z
    exact wpAny_pure hq
  · refine wpAny_bind (wpAny_pure ?_)
    simp only [Bool.false_eq_true, if_false]
    refine wpAny_bind (wpAny_mono one (fun r s' z => ?_) fun _ _ e => e)
    obtain ⟨v, rfl, hq⟩ := z
    exact wpAny_pure hq
/-- str(x) by the text's own __str__ -/
theorem cr_strOwn (hr : Room (n + 2) X.A) (F : FnOk X.prog X.w X.K X.mg X.base CX n f fd ps sp) (hs : PySem.W.findIn X.K (.ref C) "__str__" = some (some (.ref f))) (hf : PySem.W.isFn X.K (.ref f) = true) (hb : Binds X.K fd ps []) (hx : Passes CX X E) :
    CallR X (.type "str") (fun xs H Q => ∃ a dx fs, xs = [.ref a] ∧ H a = some (.ins C dx fs) ∧ sp [.ref a] H (fun v H' => ∃ z, v = .str z ∧ Q (.str z) H') E) := by
  intro pins s σ H vs us Q I r h
  obtain ⟨a, dx, fs, rfl, ha, q⟩ := h
  rw [Vals.ref1 r]
  obtain ⟨mA, J, _⟩ := ins_get I.hok ha
  obtain ⟨od, J, _⟩ := J.look
  refine PySem.W.kso_call hr.in1.in1.units0 I.kIn J hs hf ?_
  refine wpAny_mono (run_at ⟨hr.in1.in1, rfl⟩ I F hb hx (.cons (show RelV (V.ref a) (Value.ref a) from rfl) .nil) q) (fun w s' h => ?_) fun _ _ z => z
  obtain ⟨z, H', I', rz, z, rfl, q2⟩ := h
  obtain ⟨t, rfl⟩ := rz
  exact ⟨.str z, H', I', ⟨_, rfl⟩, q2⟩
end
section
variable {X : Cx}
/-! ### ranges kept -/
theorem cr_range1 : CallR X (.type "range") (fun vs H Q => ∃ j, vs = [V.int j] ∧ ∀ p, H p = none → Q (.ref p) (upd H p (.rng 0 j))) := by
  intro pins s σ H vs us Q I r h
  obtain ⟨j, rfl, q⟩ := h
  obtain ⟨u, rfl, t, rfl⟩ := vals1 r
  refine call_range_1 ⟨.ref s.heap.objs.size, upd H s.heap.objs.size (.rng 0 j), I.laid (t' := s.toks + 2) (fun b o e => Heap.get?_push_of_some _ e) (Nat.le_refl _) ?_, rfl, q _ (I.hok.fresh (Nat.le_refl _))⟩
  exact ⟨_, _, _, Heap.get?_push_size _ rfl⟩
def iRngV (tl : TE) : TI := fun σ H R => tl σ H fun x H1 => ∃ a lo hi, x = .ref a ∧ H1 a = some (.rng lo hi) ∧ (-(2 ^ 62) ≤ lo ∧ lo < 2 ^ 62 ∧ -(2 ^ 62) ≤ hi ∧ hi < 2 ^ 62) ∧ R (Itr lo (hi - lo).toNat) H1
theorem pi_rngV {tg l : Expr} {tl : TE} (hl : PE X l tl) : PI X tg l (iRngV tl) := by
  refine ⟨fun pins s σ H R I h => ?_⟩
  refine thn (hl.run pins s σ H _ I h) fun v s1 ⟨x, H1, I1, r1, q1⟩ => ?_
  obtain ⟨a, lo, hi, rfl, ha, ⟨h1, h2, h3, h4⟩, q⟩ := q1
  cases r1
  obtain ⟨t, u, v, ho⟩ := I1.hok a _ ha
  refine wpAny_pyIter_range (r := a) (a := lo) (b := hi) (c := 1) ho (small_one h1 h2 h3 h4) ?_
  refine ⟨s1.heap.objs.size, [s1.heap.objs.size], _, _, H1, rfl, I1.kept fun b o e => Heap.get?_push_of_some _ e, turn_range _ lo (hi - lo).toNat, ?_, fun b hb => ?_, q⟩
  · have e1 : lo + ((0 : Nat) : Int) * 1 = lo := by simp
    have e2 : (((hi - lo).toNat : Nat) : Int) - ((0 : Nat) : Int) = Builtin.Range.rangeSize lo hi 1 := by rw [rangeSize_one]; split <;> omega
    show IsRangeIter _ _ (lo + ((0 : Nat) : Int) * 1) ((((hi - lo).toNat : Nat) : Int) - ((0 : Nat) : Int)) 1
    rw [e1, e2]
    exact Heap.get?_push_size _ rfl
  · have e : b = s1.heap.objs.size := by simpa using hb
    subst e
    exact I1.fpOk (Nat.le_refl _) (I1.hok.fresh (Nat.le_refl _))
/-! ### whole numbers from 0 on -/
theorem op_shlNN : OpR X (binaryOp .LShift) (fun x y H Q => ∃ n k : Nat, x = .int (n : Int) ∧ y = .int (k : Int) ∧ n < 2 ^ 64 ∧ k ≤ 1000000 ∧ Q (.int ((n * 2 ^ k : Nat) : Int)) H) := by
  intro pins s σ H x y v u Q I rx ry h
  obtain ⟨n, k, rfl, rfl, c1, c2, q⟩ := h
  have e : ((n * 2 ^ k : Nat) : Int) = (n : Int) * 2 ^ ((k : Int)).toNat := by rw [Int.toNat_natCast, Int.natCast_mul, PySem.W.kbt_cast]
  rw [e] at q
  exact op_shl pins s σ H _ _ v u Q I rx ry ⟨_, _, rfl, rfl, ⟨Int.natCast_nonneg _, by omega, by omega⟩, q⟩
theorem op_shrNN : OpR X (binaryOp .RShift) (fun x y H Q => ∃ n k : Nat, x = .int (n : Int) ∧ y = .int (k : Int) ∧ Q (.int ((n / 2 ^ k : Nat) : Int)) H) := by
  intro pins s σ H x y v u Q I rx ry h
  obtain ⟨n, k, rfl, rfl, q⟩ := h
  have e : ((n / 2 ^ k : Nat) : Int) = (n : Int) / 2 ^ k := by rw [Int.natCast_ediv, PySem.W.kbt_cast]
  rw [e] at q
  exact op_shrN pins s σ H _ _ v u Q I rx ry ⟨_, _, rfl, rfl, q⟩
theorem op_orNN : OpR X (binaryOp .BitOr) (fun x y H Q => ∃ n m : Nat, x = .int (n : Int) ∧ y = .int (m : Int) ∧ Q (.int ((n ||| m : Nat) : Int)) H) := by
  intro pins s σ H x y v u Q I rx ry h
  obtain ⟨n, m, rfl, rfl, q⟩ := h
  have e := bitOr_nn (Int.natCast_nonneg n) (Int.natCast_nonneg m)
  rw [Int.toNat_natCast, Int.toNat_natCast] at e
  rw [← e] at q
  exact op_or pins s σ H _ _ v u Q I rx ry ⟨_, _, rfl, rfl, q⟩
theorem iop_orNN : OpR X (inplaceOp .BitOr) (fun x y H Q => ∃ n m : Nat, x = .int (n : Int) ∧ y = .int (m : Int) ∧ Q (.int ((n ||| m : Nat) : Int)) H) := by
  intro pins s σ H x y v u Q I rx ry h
  obtain ⟨n, m, rfl, rfl, q⟩ := h
  have e := bitOr_nn (Int.natCast_nonneg n) (Int.natCast_nonneg m)
  rw [Int.toNat_natCast, Int.toNat_natCast] at e
  rw [← e] at q
  exact iop_or pins s σ H _ _ v u Q I rx ry ⟨_, _, rfl, rfl, q⟩
theorem op_andNN : OpR X (binaryOp .BitAnd) (fun x y H Q => ∃ n m : Nat, x = .int (n : Int) ∧ y = .int (m : Int) ∧ Q (.int ((n &&& m : Nat) : Int)) H) := by
  intro pins s σ H x y v u Q I rx ry h
  obtain ⟨n, m, rfl, rfl, q⟩ := h
  have e : Builtin.bitAnd (n : Int) (m : Int) = ((n &&& m : Nat) : Int) := by
    have := bitAnd_pp (Int.natCast_nonneg n) (Int.natCast_nonneg m)
    rw [Int.toNat_natCast, Int.toNat_natCast] at this
    exact this
  rw [← e] at q
  exact op_and pins s σ H _ _ v u Q I rx ry ⟨_, _, rfl, rfl, q⟩
theorem op_modNN : OpR X (binaryOp .Mod) (fun x y H Q => ∃ n m : Nat, x = .int (n : Int) ∧ y = .int (m : Int) ∧ 1 ≤ m ∧ Q (.int ((n % m : Nat) : Int)) H) := by
  intro pins s σ H x y v u Q I rx ry h
  obtain ⟨n, m, rfl, rfl, c, q⟩ := h
  rw [Int.natCast_emod] at q
  exact op_mod pins s σ H _ _ v u Q I rx ry ⟨_, _, rfl, rfl, show (0 : Int) < (m : Int) by omega, q⟩
/-- divmod of whole numbers -/
theorem call_divmodN : CallR X (.builtin "divmod") (fun xs H Q => ∃ n m : Nat, xs = [.int (n : Int), .int (m : Int)] ∧ (1 ≤ m ∧ m < 1073741824) ∧ ∀ p, H p = none → Q (.ref p) (upd H p (.tup [.int ((n / m : Nat) : Int), .int ((n % m : Nat) : Int)]))) := by
  intro pins s σ H xs us Q I r h
  obtain ⟨n, m, rfl, ⟨c1, c2⟩, q⟩ := h
  refine call_divmod pins s σ H _ us Q I r ⟨_, _, rfl, ⟨by omega, by omega⟩, fun p hp => ?_⟩
  rw [← Int.natCast_ediv, ← Int.natCast_emod]
  exact q p hp
end
end SQ

set_option Elab.async false
set_option linter.all false
set_option maxRecDepth 100000
set_option maxHeartbeats 4000000
namespace SQ
open PySem PySem.Spec PyProof.Rows L2
structure Cal (P : Program) (w : World) (K : PySem.W.Frag) (mg : Str → Option Value) (base : Heap) (k : Nat) (x : Str) (ps : List Str) (sp : Sp) : Prop where
  ex : ∃ (f : Addr) (fd : FuncData), FnOk P w K mg base CX0 k f fd ps sp ∧ mg x = some (.ref f) ∧ PySem.W.keepIn K (.ref f) = true ∧ Binds K fd ps []
theorem pe_own {X : Cx} {x : Str} {k : Nat} {ps : List Str} {sp : Sp} {e : Expr} {es : List Expr} {t : TA} {p pos : Pos} (C : Cal X.prog X.w X.K X.mg X.base k x ps sp) (hr : Room k X.A) (hg : Gl X x) (ha : PA X (e :: es) t) (hdb : (x == ("__debug__" : Str)) = false := by decide) (he : starEach (e :: es) X.env = (false, eval e X.env) :: starEach es X.env := by rfl) (hpl : (backTo pos (starEach es X.env)).any (·.1) = false := by rfl) :
    PE X (.Call (.Name x p) (e :: es) [] pos) (tCall sp [] E0 t) := by
  obtain ⟨f, fd, F, m, kp, b⟩ := C.ex
  exact pe_call F hr hg m kp b .nil pass0 ha hdb he hpl
def CPowW (i j : Int) : Prop := 0 ≤ j ∧ (Builtin.Int.intBits i : Int) * j ≤ 2 ^ 27
theorem op_powW {X : Cx} : OpR X (binaryOp .Pow) (rI CPowW fun i j => .int (i ^ j.toNat)) := opI fun _ _ _ _ _ _ _ hc q => pow_int hc.1 hc.2 q
/-! ### heaps -/
theorem same_upd {H : Hp} {p : Addr} {o : HO} (h : H p = none) : Same H (upd H p o) := fun b x e => by
  rw [upd_ne (ne_of_none e h)]
  exact e
theorem Same.trans {H H1 H2 : Hp} (a : Same H H1) (b : Same H1 H2) : Same H H2 := fun p o e => b p o (a p o e)
theorem Same.rfl {H : Hp} : Same H H := fun _ _ e => e
theorem Same.seq {K : PySem.W.Frag} {H H' : Hp} {b : Addr} {xs : List V} (g : Same H H') (h : SqL K H b xs) : SqL K H' b xs := by
  rcases h with (h | ⟨o, h⟩) | h
  · exact .inl (.inl (g _ _ h))
  · exact .inl (.inr ⟨o, g _ _ h⟩)
  · exact .inr h
theorem Same.sqT {K : PySem.W.Frag} {H H' : Hp} {b : Addr} {xs : List V} (g : Same H H') (h : SqT K H b xs) : SqT K H' b xs := by
  rcases h with (h | ⟨o, h⟩) | h
  · exact .inl (.inl (g _ _ h))
  · exact .inl (.inr ⟨o, g _ _ h⟩)
  · exact .inr h
/-- a new object is changed again -/
theorem Same.set {H H' : Hp} {D : Addr} {o : HO} (s : Same H H') (h : H D = none) : Same H (upd H' D o) := fun b x e => by
  rw [upd_ne (ne_of_none e h)]
  exact s b x e
theorem tupT {K : PySem.W.Frag} {H : Hp} {p : Addr} {xs : List V} (h : H p = some (.tup xs)) : SqT K H p xs := .inl (.inl h)
theorem lstL {K : PySem.W.Frag} {H : Hp} {p : Addr} {xs : List V} (h : H p = some (.lst xs)) : SqL K H p xs := .inl (.inl h)
def Die (H : Hp) (a : Addr) : Prop := ∃ x y z : Int, H a = some (.lst [.int x, .int y, .int z])
/-- all but a is as it was, and a is an urn -/
def Go (a : Addr) (H H' : Hp) : Prop := (∀ b o, b ≠ a → H b = some o → H' b = some o) ∧ Die H' a
theorem Die.same {H H' : Hp} {a : Addr} (d : Die H a) (s : Same H H') : Die H' a := by
  obtain ⟨x, y, z, e⟩ := d
  exact ⟨x, y, z, s _ _ e⟩
theorem Go.of {H H' : Hp} {a : Addr} (d : Die H a) (s : Same H H') : Go a H H' := ⟨fun b o _ e => s b o e, d.same s⟩
theorem Go.trans {H H1 H2 : Hp} {a : Addr} (x : Go a H H1) (y : Go a H1 H2) : Go a H H2 := ⟨fun b o n e => y.1 b o n (x.1 b o n e), y.2⟩
theorem Go.then {H H1 H2 : Hp} {a : Addr} (x : Go a H H1) (y : Same H1 H2) : Go a H H2 := x.trans (.of x.2 y)
theorem Go.put {H : Hp} {a : Addr} {x y z : Int} : Go a H (upd H a (.lst [.int x, .int y, .int z])) := ⟨fun b o n e => by rw [upd_ne n]; exact e, x, y, z, upd_same⟩
theorem Go.new {H : Hp} {a p : Addr} {o : HO} (d : Die H a) (h : H p = none) : Go a H (upd H p o) := .of d (same_upd h)
theorem Die.ne {H : Hp} {a p : Addr} (d : Die H a) (h : H p = none) : p ≠ a := fun e => by
  obtain ⟨x, y, z, q⟩ := d
  rw [← e, h] at q
  cases q
theorem Die.neT {H : Hp} {a p : Addr} {o : HO} (d : Die H a) (h : H p = some o) (n : ∀ xs, o ≠ .lst xs) : p ≠ a := fun e => by
  obtain ⟨x, y, z, q⟩ := d
  rw [← e, h] at q
  exact n _ (Option.some.inj q)
theorem Go.seq {K : PySem.W.Frag} {H H' : Hp} {a b : Addr} {xs : List V} (g : Go a H H') (n : b ≠ a) (h : SqL K H b xs) : SqL K H' b xs := by
  rcases h with (h | ⟨o, h⟩) | h
  · exact .inl (.inl (g.1 _ _ n h))
  · exact .inl (.inr ⟨o, g.1 _ _ n h⟩)
  · exact .inr h
theorem Go.sqT {K : PySem.W.Frag} {H H' : Hp} {a b : Addr} {xs : List V} (d : Die H a) (g : Go a H H') (h : SqT K H b xs) : SqT K H' b xs := by
  rcases h with (h | ⟨o, h⟩) | h
  · exact .inl (.inl (g.1 _ _ (d.neT h (by intro xs z; cases z)) h))
  · exact .inl (.inr ⟨o, g.1 _ _ (d.neT h (by intro xs z; cases z)) h⟩)
  · exact .inr h
/-! ### the module's names -/
structure Nm (mg : Str → Option Value) : Prop where
  b_isinstance : mg "isinstance" = none
  b_int : mg "int" = none
  b_bool : mg "bool" = none
  b_str : mg "str" = none
  b_tuple : mg "tuple" = none
  b_list : mg "list" = none
  b_len : mg "len" = none
  b_all : mg "all" = none
  b_sum : mg "sum" = none
  b_set : mg "set" = none
  b_range : mg "range" = none
  b_abs : mg "abs" = none
  b_max : mg "max" = none
  b_min : mg "min" = none
  b_sorted : mg "sorted" = none
  b_divmod : mg "divmod" = none
  b_repr : mg "repr" = none
  b_zip : mg "zip" = none
  g_MAX_MODES : ∃ t, mg "MAX_MODES" = some (.int 3 t)
theorem at0 {x : V} {xs : List V} : atI (x :: xs) 0 = some x := atI_nat (j := 0) rfl
theorem at1 {x y : V} {xs : List V} : atI (x :: y :: xs) 1 = some y := atI_nat (j := 1) rfl
theorem at2 {x y z : V} {xs : List V} : atI (x :: y :: z :: xs) 2 = some z := atI_nat (j := 2) rfl
/-! ### values that are passed -/
/-- None, a bool, a whole number, a tuple, a list, a dict -/
inductive Pl (K : PySem.W.Frag) (H : Hp) : V → Prop
  | non : Pl K H .non
  | bl (b : Bool) : Pl K H (.bl b)
  | int (i : Int) : Pl K H (.int i)
  | str (x : Str) : Pl K H (.str x)
  | tup {p : Addr} {xs : List V} (e : SqT K H p xs) : Pl K H (.ref p)
  | lst {p : Addr} {xs : List V} (e : H p = some (.lst xs)) : Pl K H (.ref p)
  | dct {p : Addr} {kvs : List (Key × V)} (e : H p = some (.dK kvs)) : Pl K H (.ref p)
def isI : V → Bool
  | .int _ => true
  | _ => false
/-- an integer from a to b -/
def inB (a b : Int) : V → Bool
  | .int i => decide (a ≤ i) && decide (i ≤ b)
  | _ => false
/-! ### pairs -/
def prV (p : Pr) : List V := [.int (p.1 : Int), .int (p.2 : Int)]
def Prs (K : PySem.W.Frag) (H : Hp) (ks : List (Addr × Pr)) : Prop := ∀ q ∈ ks, SqT K H q.1 (prV q.2)
abbrev refs (ks : List (Addr × Pr)) : List V := ks.map fun q => V.ref q.1
abbrev prsOf (ks : List (Addr × Pr)) : List Pr := ks.map (·.2)
theorem Prs.same {K : PySem.W.Frag} {H H' : Hp} {ks : List (Addr × Pr)} (g : Prs K H ks) (s : Same H H') : Prs K H' ks := fun q hq => Same.sqT s (g q hq)
theorem Prs.go {K : PySem.W.Frag} {H H' : Hp} {a : Addr} {ks : List (Addr × Pr)} (g : Prs K H ks) (d : Die H a) (s : Go a H H') : Prs K H' ks := fun q hq => Go.sqT d s (g q hq)
theorem Prs.nil {K : PySem.W.Frag} {H : Hp} : Prs K H [] := fun q hq => nomatch hq
theorem Prs.app {K : PySem.W.Frag} {H : Hp} {ks ls : List (Addr × Pr)} (a : Prs K H ks) (b : Prs K H ls) : Prs K H (ks ++ ls) := fun q hq => (List.mem_append.mp hq).elim (a q) (b q)
theorem Prs.one {K : PySem.W.Frag} {H : Hp} {p : Addr} {x : Pr} (h : SqT K H p (prV x)) : Prs K H [(p, x)] := fun q hq => by
  cases List.mem_singleton.mp hq
  exact h
/-! ### spaces -/
def en (m : Nat) (b : Bool) : Nat := m + b.toNat
def spF (m : Nat) (b : Bool) : List (Str × V) := [("_modes", .int (m : Int)), ("_watched", .bl b), ("_ends", .int (en m b : Nat)), ("_size", .int ((2 ^ (m * en m b) : Nat) : Int)), ("_same", .int (sameN m (en m b) : Nat))]
def SpAt (C : Addr) (H : Hp) (p : Addr) (m : Nat) (b : Bool) : Prop := (1 ≤ m ∧ m ≤ 3) ∧ ∃ dx, H p = some (.ins C dx (spF m b))
theorem SpAt.same {C : Addr} {H H' : Hp} {p : Addr} {m : Nat} {b : Bool} (h : SpAt C H p m b) (s : Same H H') : SpAt C H' p m b := ⟨h.1, by
  obtain ⟨dx, e⟩ := h.2
  exact ⟨dx, s _ _ e⟩⟩
theorem SpAt.go {C : Addr} {H H' : Hp} {p a : Addr} {m : Nat} {b : Bool} (h : SpAt C H p m b) (d : Die H a) (s : Go a H H') : SpAt C H' p m b := ⟨h.1, by
  obtain ⟨dx, e⟩ := h.2
  exact ⟨dx, s.1 _ _ (d.neT e (by intro xs z; cases z)) e⟩⟩
theorem en_le {m : Nat} {b : Bool} (h : 1 ≤ m ∧ m ≤ 3) : 1 ≤ en m b ∧ en m b ≤ 4 := by
  unfold en
  cases b <;> simp [Bool.toNat] <;> omega
theorem men_le {m : Nat} {b : Bool} (h : 1 ≤ m ∧ m ≤ 3) : m * en m b ≤ 12 := by
  have h1 := (en_le (b := b) h).2
  have := Nat.mul_le_mul h.2 h1
  omega
theorem size_le {m : Nat} {b : Bool} (h : 1 ≤ m ∧ m ≤ 3) : 2 ^ (m * en m b) ≤ 4096 := Nat.pow_le_pow_right (n := 2) (by decide) (men_le h)
/-- the class -/
structure SpC (K : PySem.W.Frag) (mg : Str → Option Value) (C : Addr) : Prop where
  cl : Cls K C
  gC : mg "Space" = some (.ref C)
  a1 : PySem.W.findIn K (.ref C) "_modes" = some none
  a2 : PySem.W.findIn K (.ref C) "_watched" = some none
  a3 : PySem.W.findIn K (.ref C) "_ends" = some none
  a4 : PySem.W.findIn K (.ref C) "_size" = some none
  a5 : PySem.W.findIn K (.ref C) "_same" = some none
  ha : PySem.W.findIn K (.ref C) "__class__" = some (some (.builtin "object.__class__"))
  hn : PySem.W.specialIn K (.builtin "object.__class__") "__get__" = some (some (.builtin "getset_descriptor.__get__"))
  htk : PySem.W.takesIn K (.builtin "object.__class__") = some true
  hm : PySem.W.mroIn K C (.type "object") = some true
  self : PySem.W.kitOne K (.ref C) (.ref C) = some true
  kt : PySem.W.kitOne K (.type "tuple") (.ref C) = some false
  nt : PySem.W.notFirst K C (.type "tuple") = true
  ns : PySem.W.notFirst K C (.ref C) = true
theorem lkH {k : Str} {v : V} {r : List (Str × V)} : List.lookup k ((k, v) :: r) = some v := by
  have e : (k == k) = true := beq_self_eq_true k
  simp only [List.lookup, e]
theorem lkP {k g : Str} {v : V} {r : List (Str × V)} (h : (k == g) = false) : List.lookup k ((g, v) :: r) = List.lookup k r := by
  simp only [List.lookup, h]
theorem putA {f g : Str} {v x : V} {r : List (Str × V)} (h : ¬ g = f) : putF f v ((g, x) :: r) = (g, x) :: putF f v r := if_neg h
section
variable {m : Nat} {b : Bool}
theorem lk1 : (spF m b).lookup ("_modes" : Str) = some (.int (m : Int)) := lkH
theorem lk2 : (spF m b).lookup ("_watched" : Str) = some (.bl b) := (lkP (by decide +kernel)).trans lkH
theorem lk3 : (spF m b).lookup ("_ends" : Str) = some (.int (en m b : Nat)) := (lkP (by decide +kernel)).trans ((lkP (by decide +kernel)).trans lkH)
theorem lk4 : (spF m b).lookup ("_size" : Str) = some (.int ((2 ^ (m * en m b) : Nat) : Int)) := (lkP (by decide +kernel)).trans ((lkP (by decide +kernel)).trans ((lkP (by decide +kernel)).trans lkH))
theorem lk5 : (spF m b).lookup ("_same" : Str) = some (.int (sameN m (en m b) : Nat)) := (lkP (by decide +kernel)).trans ((lkP (by decide +kernel)).trans ((lkP (by decide +kernel)).trans ((lkP (by decide +kernel)).trans lkH)))
end
section
variable {a b c d v : V}
theorem pf2 : putF "_watched" v [("_modes", a)] = ([("_modes", a), ("_watched", v)] : List (Str × V)) := by
  rw [putA (by decide +kernel)]
  rfl
theorem pf3 : putF "_ends" v [("_modes", a), ("_watched", b)] = ([("_modes", a), ("_watched", b), ("_ends", v)] : List (Str × V)) := by
  rw [putA (by decide +kernel), putA (by decide +kernel)]
  rfl
theorem pf4 : putF "_size" v [("_modes", a), ("_watched", b), ("_ends", c)] = ([("_modes", a), ("_watched", b), ("_ends", c), ("_size", v)] : List (Str × V)) := by
  rw [putA (by decide +kernel), putA (by decide +kernel), putA (by decide +kernel)]
  rfl
theorem pf5 : putF "_same" v [("_modes", a), ("_watched", b), ("_ends", c), ("_size", d)] = ([("_modes", a), ("_watched", b), ("_ends", c), ("_size", d), ("_same", v)] : List (Str × V)) := by
  rw [putA (by decide +kernel), putA (by decide +kernel), putA (by decide +kernel), putA (by decide +kernel)]
  rfl
theorem lkm1 : ([("_modes", a), ("_watched", b), ("_ends", c)] : List (Str × V)).lookup ("_ends" : Str) = some c := (lkP (by decide +kernel)).trans ((lkP (by decide +kernel)).trans lkH)
theorem lkm2 : ([("_modes", a), ("_watched", b), ("_ends", c), ("_size", d)] : List (Str × V)).lookup ("_ends" : Str) = some c := (lkP (by decide +kernel)).trans ((lkP (by decide +kernel)).trans lkH)
end
/-! ### the promises -/
def spInt (K : PySem.W.Frag) : Sp := fun vs H Q _ => ∃ v, vs = [v] ∧ Pl K H v ∧ Q (.bl (isI v)) H
def spIntIn (K : PySem.W.Frag) : Sp := fun vs H Q _ => ∃ (v : V) (a b : Int), vs = [v, .int a, .int b] ∧ Pl K H v ∧ Q (.bl (inB a b v)) H
def spSame : Sp := fun vs H Q _ => ∃ m e : Nat, vs = [.int (m : Int), .int (e : Int)] ∧ m ≤ 3 ∧ e ≤ 4 ∧ ∀ H', Same H H' → Q (.int (sameN m e : Nat)) H'
def spInit (C : Addr) : Sp := fun vs H Q _ => ∃ (p dx : Addr) (m : Nat) (b : Bool), vs = [.ref p, .int (m : Int), .bl b] ∧ H p = some (.ins C dx []) ∧ 1 ≤ m ∧ m ≤ 3 ∧ ∀ H', (∀ c o, c ≠ p → H c = some o → H' c = some o) → H' p = some (.ins C dx (spF m b)) → Q .non H'
/-- a field -/
def spGet (C : Addr) (x : Str) : Sp := fun vs H Q _ => ∃ (a dx : Addr) (fs : List (Str × V)) (v : V), vs = [.ref a] ∧ H a = some (.ins C dx fs) ∧ fs.lookup x = some v ∧ Q v H
def spIsRel (C : Addr) (K : PySem.W.Frag) : Sp := fun vs H Q _ => ∃ (p : Addr) (m : Nat) (b : Bool) (v : V), vs = [.ref p, v] ∧ SpAt C H p m b ∧ Pl K H v ∧ Q (.bl (inB 0 ((2 ^ (m * en m b) : Nat) - 1) v)) H
def spChkRel (C : Addr) : Sp := fun vs H Q _ => ∃ (p : Addr) (m : Nat) (b : Bool) (r : Nat), vs = [.ref p, .int (r : Int)] ∧ SpAt C H p m b ∧ r < 2 ^ (m * en m b) ∧ Q .non H
def spPairsOf (K : PySem.W.Frag) : Sp := fun vs H Q _ => ∃ r m e : Nat, vs = [.int (r : Int), .int (m : Int), .int (e : Int)] ∧ m * e ≤ 12 ∧ 1 ≤ e ∧ e ≤ 4 ∧ m ≤ 3 ∧ r < 2 ^ (m * e) ∧ ∀ (H' : Hp) (D : Addr) (ks : List (Addr × Pr)), Same H H' → H' D = some (.lst (refs ks)) → Prs K H' ks → prsOf ks = prs e r → Q (.ref D) H'
def spPairsP (C : Addr) (K : PySem.W.Frag) : Sp := fun vs H Q _ => ∃ (p : Addr) (m : Nat) (b : Bool) (r : Nat), vs = [.ref p, .int (r : Int)] ∧ SpAt C H p m b ∧ r < 2 ^ (m * en m b) ∧ ∀ H' l ks, Same H H' → SqT K H' l (refs ks) → Prs K H' ks → prsOf ks = prs (en m b) r → Q (.ref l) H'
def spIsPair (C : Addr) (K : PySem.W.Frag) : Sp := fun vs H Q _ => ∃ (p t : Addr) (m : Nat) (b : Bool) (x : Pr), vs = [.ref p, .ref t] ∧ SpAt C H p m b ∧ SqT K H t (prV x) ∧ x.1 < m ∧ x.2 < en m b ∧ Q (.bl true) H
def spRelation (C : Addr) (K : PySem.W.Frag) : Sp := fun vs H Q _ => ∃ (p l : Addr) (m : Nat) (b : Bool) (ks : List (Addr × Pr)), vs = [.ref p, .ref l] ∧ SpAt C H p m b ∧ SqT K H l (refs ks) ∧ Prs K H ks ∧ (prsOf ks).Nodup ∧ ks.length < 64 ∧ (∀ x ∈ prsOf ks, x.1 < m ∧ x.2 < en m b) ∧ ∀ H', Same H H' → Q (.int (bitsN (en m b) (prsOf ks) : Nat)) H'
def spTwo (C : Addr) (g : Nat → Nat → Nat → Nat → V) : Sp := fun vs H Q _ => ∃ (p : Addr) (m : Nat) (b : Bool) (r s : Nat), vs = [.ref p, .int (r : Int), .int (s : Int)] ∧ SpAt C H p m b ∧ r < 2 ^ (m * en m b) ∧ s < 2 ^ (m * en m b) ∧ ∀ H', Same H H' → Q (g m (en m b) r s) H'
def gOr : Nat → Nat → Nat → Nat → V := fun _ _ r s => .int ((r ||| s : Nat) : Int)
def gIn : Nat → Nat → Nat → Nat → V := fun _ _ r s => .bl (decide (r ||| s = s))
/-- == with a space or a tuple -/
def spEq (C : Addr) (K : PySem.W.Frag) : Sp := fun vs H Q _ => ∃ (p : Addr) (m : Nat) (b : Bool) (y : V), vs = [.ref p, y] ∧ SpAt C H p m b ∧
  ((∃ q n c, y = .ref q ∧ SpAt C H q n c ∧ Q (.bl (decide (m = n) && (b == c))) H) ∨ (∃ t xs, y = .ref t ∧ SqT K H t xs ∧ Q (.bl false) H))
def txt (m : Nat) (b : Bool) : Str := Str.ofString (toString ((2 ^ (m * en m b) : Nat) : Int)) ++ (" relations of " : Str) ++ Str.ofString (toString (m : Int)) ++ (" modes" : Str) ++ (if b = true then (", watched" : Str) else ("" : Str))
def spStr (C : Addr) : Sp := fun vs H Q _ => ∃ (p : Addr) (m : Nat) (b : Bool), vs = [.ref p] ∧ SpAt C H p m b ∧ Q (.str (txt m b)) H
/-! the law's own -/
def spUrn (K : PySem.W.Frag) : Sp := fun vs H Q _ => ∃ (a : Addr) (ns : List Int) (i : Nat), vs = [.ref a, .int (i : Int)] ∧ SqL K H a (ns.map V.int) ∧ i ≤ 1000 ∧ ∀ H' p, Same H H' → H p = none → Die H' p → Q (.ref p) H'
def spTake : Sp := fun vs H Q _ => ∃ (a : Addr) (n : Nat), vs = [.ref a, .int (n : Int)] ∧ Die H a ∧ 0 < n ∧ n < 1000000 ∧ ∀ (r : Nat) H', r < n → Go a H H' → (∀ b, b ≠ a → H' b = H b) → Q (.int (r : Int)) H'
def spOne (K : PySem.W.Frag) : Sp := fun vs H Q _ => ∃ (a b : Addr) (xs : List V), Die H a ∧ vs = [.ref a, .ref b] ∧ SqL K H b xs ∧ b ≠ a ∧ xs ≠ [] ∧ xs.length < 1000 ∧ ∀ v H', v ∈ xs → Go a H H' → (∀ b, b ≠ a → H' b = H b) → Q v H'
def spSome (K : PySem.W.Frag) : Sp := fun vs H Q _ => ∃ (a b : Addr) (xs : List V), vs = [.ref a, .ref b, .int (xs.length : Nat)] ∧ Die H a ∧ SqL K H b xs ∧ b ≠ a ∧ xs.length ≤ 100 ∧ ∀ (ys : List V) H' p, ys.Perm xs → Go a H H' → H p = none → p ≠ a → H' p = some (.lst ys) → Q (.ref p) H'
def spPairsL (K : PySem.W.Frag) : Sp := fun vs H Q _ => ∃ (e r : Nat), vs = [.int (e : Int), .int (r : Int)] ∧ 1 ≤ e ∧ e ≤ 4 ∧ r < 4096 ∧ ∀ H' l ks, Same H H' → H l = none → H' l = some (.lst (refs ks)) → Prs K H' ks → prsOf ks = prs e r → Q (.ref l) H'
def spBits (K : PySem.W.Frag) : Sp := fun vs H Q _ => ∃ (e : Nat) (l : Addr) (ks : List (Addr × Pr)), vs = [.int (e : Int), .ref l] ∧ 1 ≤ e ∧ e ≤ 4 ∧ SqL K H l (refs ks) ∧ Prs K H ks ∧ ks.length < 64 ∧ (∀ x ∈ prsOf ks, x.2 < e ∧ cd e x < 12) ∧ ∀ H', Same H H' → Q (.int (bitsN e (prsOf ks) : Nat)) H'
def spWithin (K : PySem.W.Frag) : Sp := fun vs H Q _ => ∃ (l1 l2 : Addr) (ks ls : List (Addr × Pr)), vs = [.ref l1, .ref l2] ∧ SqL K H l1 (refs ks) ∧ SqL K H l2 (refs ls) ∧ Prs K H ks ∧ Prs K H ls ∧ ks.length ≤ 100 ∧ ls.length ≤ 100 ∧ ∀ H', Same H H' → Q (.bl (decide (((prsOf ks).filter fun p => decide (p ∉ prsOf ls)) = []))) H'
def spSizes : Sp := fun vs H Q _ => ∃ (m : Nat) (b : Bool), vs = [.int (m : Int), .bl b] ∧ 1 ≤ m ∧ m ≤ 3 ∧ ∀ H' l, Same H H' → H l = none → H' l = some (.lst [.int (en m b : Nat), .int ((2 ^ (m * en m b) : Nat) : Int)]) → Q (.ref l) H'
def spRight : Sp := fun vs H Q _ => ∃ (a : Addr), vs = [.ref a] ∧ Die H a ∧ ∀ H', Go a H H' → Q (.bl true) H'
def spLaw (K : PySem.W.Frag) : Sp := fun vs H Q _ => ∃ (a : Addr) (ns : List Int), vs = [.ref a] ∧ SqL K H a (ns.map V.int) ∧ ns.length ≤ 63 ∧ ∀ H', Q (.bl true) H'
end SQ

set_option Elab.async false
set_option linter.all false
set_option maxRecDepth 100000
set_option maxHeartbeats 4000000
/-! comprehensions whose turns only make new objects (or draw) -/
namespace SQ
open PySem PySem.Spec PyProof.Rows L2
inductive Al {α : Type} (Φ : α → V → Prop) : List α → List V → Prop
  | nil : Al Φ [] []
  | cons {m : α} {y : V} {ms : List α} {ys : List V} : Φ m y → Al Φ ms ys → Al Φ (m :: ms) (y :: ys)
theorem Al.len {α : Type} {Φ : α → V → Prop} {ms : List α} {ys : List V} (a : Al Φ ms ys) : ys.length = ms.length := by
  induction a with
  | nil => rfl
  | cons _ _ ih => rw [List.length_cons, List.length_cons, ih]
theorem Al.snoc {α : Type} {Φ : α → V → Prop} {ms : List α} {ys : List V} {m : α} {y : V} (a : Al Φ ms ys) (h : Φ m y) : Al Φ (ms ++ [m]) (ys ++ [y]) := by
  induction a with
  | nil => exact .cons h .nil
  | cons x _ ih => exact .cons x ih
theorem Al.mono {α : Type} {Φ Ψ : α → V → Prop} {ms : List α} {ys : List V} (h : ∀ m y, Φ m y → Ψ m y) (a : Al Φ ms ys) : Al Ψ ms ys := by
  induction a with
  | nil => exact .nil
  | cons x _ ih => exact .cons (h _ _ x) ih
theorem Al.map {α : Type} {f : α → V} {ms : List α} {ys : List V} (a : Al (fun m y => y = f m) ms ys) : ys = ms.map f := by
  induction a with
  | nil => rfl
  | cons x _ ih => rw [x, ih]; rfl
/-- what a turn may do to the heap -/
structure Rg (R : Hp → Hp → Prop) (D : Addr) (H1 : Hp) : Prop where
  ini : R H1 (upd H1 D (.lst []))
  trans : ∀ {H H'}, R H1 H → R H H' → R H1 H'
  keep : ∀ {H H' o}, R H1 H → R H H' → H D = some o → H' D = some o
  set : ∀ {H o}, R H1 H → R H1 (upd H D o)
  put : ∀ {H o}, R H1 H → ∀ (b : Addr) (u : HO), b ≠ D → H b = some u → upd H D o b = some u
theorem Rg.same {D : Addr} {H1 : Hp} (n : H1 D = none) : Rg Same D H1 := ⟨same_upd n, fun a b => a.trans b, fun _ b e => b _ _ e, fun a => Same.set a n, fun _ b u hb e => by rw [upd_ne hb]; exact e⟩
theorem Rg.go {D a : Addr} {H1 : Hp} (d : Die H1 a) (n : H1 D = none) : Rg (Go a) D H1 := ⟨.new d n, fun a b => a.trans b, fun _ b e => b.1 _ _ (d.ne n) e, fun {H o} s => ⟨fun b u hb e => by
    rw [upd_ne (ne_of_none e n)]
    exact s.1 b u hb e, by
    obtain ⟨x, y, z, e⟩ := s.2
    exact ⟨x, y, z, by rw [upd_ne (d.ne n).symm]; exact e⟩⟩, fun _ b u hb e => by rw [upd_ne hb]; exact e⟩
theorem filt_more {α : Type} {ms : List α} {i : Nat} {m : α} (p : α → Bool) (h : ms[i]? = some m) : (ms.take (i + 1)).filter p = (ms.take i).filter p ++ if p m = true then [m] else [] := by
  rw [take_next h, List.filter_append]
  by_cases e : p m = true
  · rw [if_pos e, List.filter_cons_of_pos e]
    rfl
  · rw [if_neg e, List.filter_cons_of_neg e]
    rfl
section
variable {α : Type} {g : TG} {tt : TT} {te : TE} {vs : List Nat} {σ : L2.St} {H1 : Hp} {D : Addr} {Qd : Hp → Prop} {R : Hp → Hp → Prop} {ms : List α} {gv : α → V} {p : α → Bool} {Φ : α → V → Hp → Prop}
/-- the state between two turns -/
def Mid (R : Hp → Hp → Prop) (p : α → Bool) (Φ : α → V → Hp → Prop) (ms : List α) (D : Addr) (H1 : Hp) (i : Nat) (H : Hp) : Prop := R H1 H ∧ ∃ ys, H D = some (.lst ys) ∧ Al (fun m y => Φ m y H) ((ms.take i).filter p) ys
theorem Mid.ini (r : Rg R D H1) : Mid R p Φ ms D H1 0 (upd H1 D (.lst [])) := ⟨r.ini, [], upd_same, by rw [List.take_zero]; exact .nil⟩
theorem Mid.turn (r : Rg R D H1) (st : ∀ m y H H', R H1 H → R H H' → Φ m y H → Φ m y H') (su : ∀ m y H o, R H1 H → (∃ ys, H D = some (.lst ys)) → Φ m y H → Φ m y (upd H D o)) (few : ms.length < 1000000) {i : Nat} {m : α} {H : Hp} (hm : ms[i]? = some m) (md : Mid R p Φ ms D H1 i H) :
    (p m = true → ∀ y H4, R H H4 → Φ m y H4 → ∃ acc, H4 D = some (.lst acc) ∧ acc.length < sizeLine ∧ Mid R p Φ ms D H1 (i + 1) (upd H4 D (.lst (acc ++ [y])))) ∧ (p m = false → ∀ H4, R H H4 → Mid R p Φ ms D H1 (i + 1) H4) := by
  obtain ⟨r1, ys, e, al⟩ := md
  have hi : i < ms.length := (List.getElem?_eq_some_iff.mp hm).1
  refine ⟨fun hp y H4 r4 h => ?_, fun hp H4 r4 => ?_⟩
  · refine ⟨ys, r.keep r1 r4 e, ?_, r.set (r.trans r1 r4), ys ++ [y], upd_same, ?_⟩
    · rw [al.len, sizeLine_eq]
      have := List.length_filter_le p (ms.take i)
      rw [List.length_take] at this
      omega
    · rw [filt_more p hm, if_pos hp]
      exact (al.mono fun m y h => su m y H4 _ (r.trans r1 r4) ⟨_, r.keep r1 r4 e⟩ (st m y H H4 r1 r4 h)).snoc (su m y H4 _ (r.trans r1 r4) ⟨_, r.keep r1 r4 e⟩ h)
  · refine ⟨r.trans r1 r4, ys, r.keep r1 r4 e, ?_⟩
    rw [filt_more p hm, if_neg (by rw [hp]; decide), List.append_nil]
    exact al.mono fun m y h => st m y H H4 r1 r4 h
/-- [.. for x in xs if ..], xs a list -/
theorem lcL {K : PySem.W.Frag} {a : Addr} {xs : List V} (ms : List α) (gv : α → V) (p : α → Bool) (Φ : α → V → Hp → Prop) (hx : xs = ms.map gv) (r : Rg R D H1) (sq : ∀ H, R H1 H → SqL K H a xs) (st : ∀ m y H H', R H1 H → R H H' → Φ m y H → Φ m y H') (su : ∀ m y H o, R H1 H → (∃ ys, H D = some (.lst ys)) → Φ m y H → Φ m y (upd H D o)) (few : ms.length < 1000000)
    (hs : ∀ m H (Ok : V → Hp → Prop) (No : Hp → Prop), m ∈ ms → R H1 H → (∃ ys, H D = some (.lst ys)) → (p m = true → ∀ y H4, R H H4 → Φ m y H4 → Ok y H4) → (p m = false → ∀ H4, R H H4 → No H4) → g (gv m) (wipe σ vs) H fun σ2 H2 => wipe σ2 vs = wipe σ vs ∧ tt σ2 H2 fun b H3 => if b = true then te σ2 H3 Ok else No H3)
    (hd : ∀ H ys, R H1 H → H D = some (.lst ys) → Al (fun m y => Φ m y H) (ms.filter p) ys → Qd H) :
    ∃ W : Nat → Nat → Hp → Prop, (∃ m, W 0 m (upd H1 D (.lst []))) ∧ ∀ i m H, W i m H →
      ((Itl K a).stop i H ∧ Qd H) ∨ ((Itl K a).go i H ∧ ∃ Nx : Hp → Prop, (∀ H', Nx H' → ∃ m', m' < m ∧ W (i + 1) m' H') ∧ ∀ x H', (Itl K a).yld i H x H' → g x (wipe σ vs) H' fun σ2 H2 => wipe σ2 vs = wipe σ vs ∧ tt σ2 H2 fun b H3 =>
        if b = true then te σ2 H3 fun y H4 => ∃ acc, H4 D = some (.lst acc) ∧ acc.length < sizeLine ∧ Nx (upd H4 D (.lst (acc ++ [y]))) else Nx H3) := by
  subst hx
  refine lc_list (xs := ms.map gv) (Mid R p Φ ms D H1) (Mid.ini r) (fun i H _ h => sq H h.1) (fun i x H hx md => ?_) (fun H md => ?_)
  · rw [List.getElem?_map] at hx
    obtain ⟨m, hm, rfl⟩ := Option.map_eq_some_iff.mp hx
    obtain ⟨t1, t2⟩ := Mid.turn r st su few hm md
    exact hs m H _ _ (List.mem_of_getElem? hm) md.1 (md.2.elim fun _ z => ⟨_, z.1⟩) t1 t2
  · obtain ⟨r1, ys, e, al⟩ := md
    rw [List.length_map, List.take_length] at al
    exact hd H ys r1 e al
/-- .. xs a tuple -/
theorem lcT {K : PySem.W.Frag} {a : Addr} {xs : List V} (ms : List α) (gv : α → V) (p : α → Bool) (Φ : α → V → Hp → Prop) (hx : xs = ms.map gv) (r : Rg R D H1) (sq : ∀ H, R H1 H → SqT K H a xs) (st : ∀ m y H H', R H1 H → R H H' → Φ m y H → Φ m y H') (su : ∀ m y H o, R H1 H → (∃ ys, H D = some (.lst ys)) → Φ m y H → Φ m y (upd H D o)) (few : ms.length < 1000000)
    (hs : ∀ m H (Ok : V → Hp → Prop) (No : Hp → Prop), m ∈ ms → R H1 H → (∃ ys, H D = some (.lst ys)) → (p m = true → ∀ y H4, R H H4 → Φ m y H4 → Ok y H4) → (p m = false → ∀ H4, R H H4 → No H4) → g (gv m) (wipe σ vs) H fun σ2 H2 => wipe σ2 vs = wipe σ vs ∧ tt σ2 H2 fun b H3 => if b = true then te σ2 H3 Ok else No H3)
    (hd : ∀ H ys, R H1 H → H D = some (.lst ys) → Al (fun m y => Φ m y H) (ms.filter p) ys → Qd H) :
    ∃ W : Nat → Nat → Hp → Prop, (∃ m, W 0 m (upd H1 D (.lst []))) ∧ ∀ i m H, W i m H →
      ((Itt K a).stop i H ∧ Qd H) ∨ ((Itt K a).go i H ∧ ∃ Nx : Hp → Prop, (∀ H', Nx H' → ∃ m', m' < m ∧ W (i + 1) m' H') ∧ ∀ x H', (Itt K a).yld i H x H' → g x (wipe σ vs) H' fun σ2 H2 => wipe σ2 vs = wipe σ vs ∧ tt σ2 H2 fun b H3 =>
        if b = true then te σ2 H3 fun y H4 => ∃ acc, H4 D = some (.lst acc) ∧ acc.length < sizeLine ∧ Nx (upd H4 D (.lst (acc ++ [y]))) else Nx H3) := by
  subst hx
  refine lc_tup (xs := ms.map gv) (Mid R p Φ ms D H1) (Mid.ini r) (fun i H _ h => sq H h.1) (fun i x H hx md => ?_) (fun H md => ?_)
  · rw [List.getElem?_map] at hx
    obtain ⟨m, hm, rfl⟩ := Option.map_eq_some_iff.mp hx
    obtain ⟨t1, t2⟩ := Mid.turn r st su few hm md
    exact hs m H _ _ (List.mem_of_getElem? hm) md.1 (md.2.elim fun _ z => ⟨_, z.1⟩) t1 t2
  · obtain ⟨r1, ys, e, al⟩ := md
    rw [List.length_map, List.take_length] at al
    exact hd H ys r1 e al
/-- .. range(n) -/
theorem lcR {n : Nat} (p : Nat → Bool) (Φ : Nat → V → Hp → Prop) (r : Rg R D H1) (st : ∀ m y H H', R H1 H → R H H' → Φ m y H → Φ m y H') (su : ∀ m y H o, R H1 H → (∃ ys, H D = some (.lst ys)) → Φ m y H → Φ m y (upd H D o)) (few : n < 1000000)
    (hs : ∀ (m : Nat) H (Ok : V → Hp → Prop) (No : Hp → Prop), m < n → R H1 H → (∃ ys, H D = some (.lst ys)) → (p m = true → ∀ y H4, R H H4 → Φ m y H4 → Ok y H4) → (p m = false → ∀ H4, R H H4 → No H4) → g (.int (m : Int)) (wipe σ vs) H fun σ2 H2 => wipe σ2 vs = wipe σ vs ∧ tt σ2 H2 fun b H3 => if b = true then te σ2 H3 Ok else No H3)
    (hd : ∀ H ys, R H1 H → H D = some (.lst ys) → Al (fun m y => Φ m y H) ((List.range n).filter p) ys → Qd H) :
    ∃ W : Nat → Nat → Hp → Prop, (∃ m, W 0 m (upd H1 D (.lst []))) ∧ ∀ i m H, W i m H →
      ((Itr 0 n).stop i H ∧ Qd H) ∨ ((Itr 0 n).go i H ∧ ∃ Nx : Hp → Prop, (∀ H', Nx H' → ∃ m', m' < m ∧ W (i + 1) m' H') ∧ ∀ x H', (Itr 0 n).yld i H x H' → g x (wipe σ vs) H' fun σ2 H2 => wipe σ2 vs = wipe σ vs ∧ tt σ2 H2 fun b H3 =>
        if b = true then te σ2 H3 fun y H4 => ∃ acc, H4 D = some (.lst acc) ∧ acc.length < sizeLine ∧ Nx (upd H4 D (.lst (acc ++ [y]))) else Nx H3) := by
  refine lc_range (lo := 0) (n := n) (Mid R p Φ (List.range n) D H1) (Mid.ini r) (fun i H hi md => ?_) (fun H md => ?_)
  · have hm : (List.range n)[i]? = some i := by rw [List.getElem?_range hi]
    obtain ⟨t1, t2⟩ := Mid.turn r st su (by rw [List.length_range]; exact few) hm md
    rw [Int.zero_add]
    exact hs i H _ _ hi md.1 (md.2.elim fun _ z => ⟨_, z.1⟩) t1 t2
  · obtain ⟨r1, ys, e, al⟩ := md
    rw [List.take_of_length_le (by rw [List.length_range]; exact Nat.le_refl _)] at al
    exact hd H ys r1 e al
end
/-- for k in range(n) -/
theorem for_rgN {n : Nat} {g : TG} {tb : TS} {D : Ends} {σ : L2.St} {H : Hp} (Pv : Nat → L2.St → Hp → Prop) (h0 : Pv 0 σ H)
    (hs : ∀ (i : Nat) σ H, i < n → Pv i σ H → g (.int (i : Int)) σ H fun σ2 H2 => tb { D with nx := Pv (i + 1), ct := Pv (i + 1), bk := D.nx } σ2 H2) (hd : ∀ σ H, Pv n σ H → D.nx σ H) :
    ∃ W : Nat → Nat → L2.St → Hp → Prop, (∃ m, W 0 m σ H) ∧ ∀ i m σ H, W i m σ H →
      ((Itr 0 n).stop i H ∧ D.nx σ H) ∨ ((Itr 0 n).go i H ∧ ∃ N : L2.St → Hp → Prop, (∀ σ' H', N σ' H' → ∃ m', m' < m ∧ W (i + 1) m' σ' H') ∧ ∀ x H', (Itr 0 n).yld i H x H' → g x σ H' fun σ2 H2 => tb { D with nx := N, ct := N, bk := D.nx } σ2 H2) :=
  for_range (lo := 0) (n := n) Pv h0 (fun i σ H hi p => by rw [Int.zero_add]; exact hs i σ H hi p) hd
end SQ

set_option Elab.async false
set_option linter.all false
set_option maxRecDepth 100000
set_option maxHeartbeats 4000000
/-! own methods, properties, the making of a space -/
namespace SQ
open PySem PySem.Spec PyProof.Rows L2
/-- a method -/
structure MCal (P : Program) (w : World) (K : PySem.W.Frag) (mg : Str → Option Value) (base : Heap) (C : Addr) (k : Nat) (x : Str) (ps : List Str) (sp : Sp) : Prop where
  ex : ∃ (f : Addr) (fd : FuncData), FnOk P w K mg base CX0 k f fd ps sp ∧ Meth K C x f ∧ Binds K fd ps []
/-- a property -/
structure PrP (P : Program) (w : World) (K : PySem.W.Frag) (mg : Str → Option Value) (base : Heap) (C : Addr) (x g : Str) : Prop where
  ex : ∃ p f fd, PropOf K C x p f ∧ FnOk P w K mg base CX0 1 f fd ["self"] (spGet C g) ∧ Binds K fd ["self"] []
section
variable {X : Cx} {C : Addr} {e o : Expr} {es : List Expr} {ta : TE} {t : TA} {x g m : Str} {k : Nat} {ps : List Str} {sp : Sp} {p pos apos : Pos}
theorem pe_ownM {pl : Sem Bool} (M : MCal X.prog X.w X.K X.mg X.base C k m ps sp) (c : Cls X.K C) (hr : Room k X.A) (ho : PE X o ta) (ha : PA X (e :: es) t) (h1 : starEach (e :: es) X.env = (false, eval e X.env) :: starEach es X.env := by rfl) (h2 : (backTo pos (starEach es X.env)).any (·.1) = false := by rfl)
    (h3 : eval (.Call (.Attribute o m apos) (e :: es) [] pos) X.env = (do
      let ov ← eval o X.env
      standAt apos.atName
      let (f, first) ← holding [ov] (getMethod ov m pl)
      callWith pos f first (backTo pos (starEach (e :: es) X.env)) (backToKw pos (keywordEach [] X.env))) := by rfl) : PE X (.Call (.Attribute o m apos) (e :: es) [] pos) (tMeth C m sp [] E0 ta t) := by
  obtain ⟨f, fd, q1, q2, q3⟩ := M.ex
  exact pe_meth ho c q2 q1 hr q3 .nil pass0 ha h1 h2 h3
theorem pe_pr (R : PrP X.prog X.w X.K X.mg X.base C x g) (c : Cls X.K C) (hr : Room 2 X.A) (he : PE X e ta) (hab : attributeBase e x X.env (eval e X.env) = eval e X.env) : PE X (.Attribute e x pos) (tProp C (spGet C g) [] E0 ta) := by
  obtain ⟨q, f, fd, h1, h2, h3⟩ := R.ex
  exact pe_prop he c h1 h2 hr h3 .nil pass0 hab
end
theorem noF {x : Str} {m : Nat} {b : Bool} (h1 : (x == ("_modes" : Str)) = false := by decide +kernel) (h2 : (x == ("_watched" : Str)) = false := by decide +kernel) (h3 : (x == ("_ends" : Str)) = false := by decide +kernel) (h4 : (x == ("_size" : Str)) = false := by decide +kernel) (h5 : (x == ("_same" : Str)) = false := by decide +kernel) : (spF m b).lookup x = none :=
  (lkP h1).trans ((lkP h2).trans ((lkP h3).trans ((lkP h4).trans ((lkP h5).trans rfl))))
theorem ty_tup {K : PySem.W.Frag} {H : Hp} {a : Addr} {xs : List V} (h : SqT K H a xs) : TyX K H (.ref a) (.type "tuple") := by
  rcases h with (h | ⟨o, h⟩) | ⟨o, its, n, h, c, _⟩
  · exact .base (.tup h)
  · exact .fTuple h
  · exact .kTuple h c
section
variable {X : Cx} {K : PySem.W.Frag}
theorem ix_tupK (h : X.K = K) : IxR X (rIxT K) := by
  subst h
  exact ix_tup
theorem ix_listK (h : X.K = K) : IxR X (rIxL K) := by
  subst h
  exact ix_list
theorem pe_fldK {e : Expr} {te : TE} {f : Str} {pos : Pos} (h : X.K = K) (he : PE X e te) (hbase : attributeBase e f X.env (eval e X.env) = eval e X.env) : PE X (.Attribute e f pos) (tFld K te f) := by
  subst h
  exact pe_fld he hbase
def tTruth (K : PySem.W.Frag) (ta : TE) : TT := fun σ H Q => ta σ H fun x H' => ∃ k, TruV K x H' k ∧ Q k H'
theorem pt_truthK {a : Expr} {ta : TE} (h : X.K = K) (ha : PE X a ta) (he : ∀ whole, isTrue a X.env whole = (do let v ← whole; standAt a.pos; holding [v] (truthy v))) : PT X a (tTruth K ta) := by
  subst h
  exact pt_truth ha he
/-- not in, a list of data -/
def rNotL (K : PySem.W.Frag) : R2 := fun x y H Q => ∃ d ds, Dp K H x d ∧ Dp K H y (.list ds) ∧ SeqAt.shaped d = true ∧ SeqAt.shaped (.list ds) = true ∧ Q (.bl (!(ds.any fun z => PyData.eqv z d))) H
theorem op_notInLK (h : X.K = K) (hu : X.A.units + 65 < cLine) : OpR X (compareOp .NotIn) (rNotL K) := by
  subst h
  intro pins s σ H x y v u Q I rx ry h
  obtain ⟨d, ds, hd, he, sd, se, q⟩ := h
  obtain ⟨as, r1⟩ := Dp.reads I d x v hd rx
  obtain ⟨bs, r2⟩ := Dp.reads I (.list ds) y u he ry
  exact SeqAt.notIn_list_reads r2 r1 (SeqAt.canLay_of_shaped se) (SeqAt.canLay_of_shaped sd) (room_in_shaped sd hu) ⟨.bl _, H, I, rfl, q⟩
theorem op_eqDK (h : X.K = K) (hu : X.A.units + 64 < cLine) : OpR X (compareOp .Eq) (rEqD K) := by
  subst h
  exact op_eqD hu
theorem op_neDK (h : X.K = K) (hu : X.A.units + 64 < cLine) : OpR X (compareOp .NotEq) (rNeD K) := by
  subst h
  exact op_neD hu
end
/-- Space(..) with its keyword, or without -/
structure SpM (P : Program) (w : World) (K : PySem.W.Frag) (mg : Str → Option Value) (base : Heap) (C : Addr) : Prop where
  c : SpC K mg C
  ini : ∃ (f : Addr) (fd : FuncData), FnOk P w K mg base CX0 3 f fd ["self", "modes", "watched"] (spInit C) ∧ Mk K C f ∧ (∃ ds, Vals [V.bl false] ds ∧ Binds K fd ["self", "modes", "watched"] ds) ∧ KBn K fd ["self", "modes", "watched"] 2 ["watched"] (fun us ws => us ++ ws) (fun vs zs => vs ++ zs)
  eq : ∃ f fd, FnOk P w K mg base CX0 1 f fd ["self", "other"] (spEq C K) ∧ Binds K fd ["self", "other"] [] ∧ PySem.W.findIn K (.ref C) "__eq__" = some (some (.ref f)) ∧ PySem.W.isFn K (.ref f) = true
  ne : PySem.W.findIn K (.ref C) "__ne__" = some (some (.builtin "object.__ne__"))
  str : ∃ f fd, FnOk P w K mg base CX0 1 f fd ["self"] (spStr C) ∧ Binds K fd ["self"] [] ∧ PySem.W.findIn K (.ref C) "__str__" = some (some (.ref f)) ∧ PySem.W.isFn K (.ref f) = true
section
variable {X : Cx} {C : Addr} {e : Expr} {kws : List Keyword} {t tk : TA} {p pos : Pos}
theorem pe_mkS (G : SpM X.prog X.w X.K X.mg X.base C) (hr : Room 4 X.A) (hg : Gl X "Space") (ha : PA X [e] t) (he : starEach [e] X.env = (false, eval e X.env) :: starEach [] X.env := by rfl) (hpl : (backTo pos (starEach [] X.env)).any (·.1) = false := by rfl) :
    PE X (.Call (.Name "Space" p) [e] [] pos) (tMake C (spInit C) [.bl false] E0 t) := by
  obtain ⟨f, fd, h1, h2, ⟨ds, r, b⟩, _⟩ := G.ini
  exact pe_make h2 h1 hr hg G.c.gC b r pass0 ha (by decide) he hpl
theorem pe_mkW (G : SpM X.prog X.w X.K X.mg X.base C) (hr : Room 4 X.A) (hg : Gl X "Space") (ha : PA X [e] t) (hkw : PK X kws tk) (hall : (backToKw pos (keywordEach kws X.env)).all (·.1.isSome) = true := by rfl) (hks : (backToKw pos (keywordEach kws X.env)).filterMap (·.1) = ([("watched" : Str)] : List Str) := by rfl)
    (he : starEach [e] X.env = (false, eval e X.env) :: starEach [] X.env := by rfl) (hpl : ((backTo pos (starEach [e] X.env)).any (·.1) || (backToKw pos (keywordEach kws X.env)).any (·.1.isNone)) = false := by rfl) :
    PE X (.Call (.Name "Space" p) [e] kws pos) (tMakeK C 1 1 (spInit C) (fun vs zs => vs ++ zs) E0 t tk) := by
  obtain ⟨f, fd, h1, h2, _, kb⟩ := G.ini
  exact pe_makeK h2 h1 hr hg G.c.gC kb pass0 ha hkw hall hks (by decide) he hpl
theorem op_eqS (G : SpM X.prog X.w X.K X.mg X.base C) (hr : Room 1 X.A) : OpR X (compareOp .Eq) (rEqO X.K C (spEq C X.K) E0 false) := by
  obtain ⟨f, fd, h1, h2, h3, h4⟩ := G.eq
  exact op_eqOwn hr h1 h3 h4 h2 pass0
theorem op_neS (G : SpM X.prog X.w X.K X.mg X.base C) (hr : Room 2 X.A) : OpR X (compareOp .NotEq) (rEqO X.K C (spEq C X.K) E0 true) := by
  obtain ⟨f, fd, h1, h2, h3, h4⟩ := G.eq
  exact op_neOwn hr h1 h3 h4 h2 pass0 G.ne G.c.hm
theorem cr_strS (G : SpM X.prog X.w X.K X.mg X.base C) (hr : Room 3 X.A) : CallR X (.type "str") (fun xs H Q => ∃ a dx fs, xs = [.ref a] ∧ H a = some (.ins C dx fs) ∧ spStr C [.ref a] H (fun v H' => ∃ z, v = .str z ∧ Q (.str z) H') E0) := by
  obtain ⟨f, fd, h1, h2, h3, h4⟩ := G.str
  exact cr_strOwn hr h1 h3 h4 h2 pass0
end
end SQ
namespace SQ
open PySem PySem.Spec PyProof.Rows L2
theorem int_dec {n m : Nat} : decide (V.int (n : Int) = V.int (m : Int)) = decide (n = m) := decide_eq_decide.mpr ⟨fun e => Int.ofNat.inj (V.int.inj e), fun e => by rw [e]⟩
theorem sqT_put {K : PySem.W.Frag} {H : Hp} {D t : Addr} {o : HO} {xs : List V} (n : t ≠ D) (h : SqT K H t xs) : SqT K (upd H D o) t xs := by
  rcases h with (h | ⟨o', h⟩) | h
  · exact .inl (.inl (by rw [upd_ne n]; exact h))
  · exact .inl (.inr ⟨o', by rw [upd_ne n]; exact h⟩)
  · exact .inr h
theorem al_prs {α : Type} {K : PySem.W.Frag} {H : Hp} {f : α → Pr} {ms : List α} {ys : List V} (a : Al (fun m y => ∃ t, y = .ref t ∧ SqT K H t (prV (f m))) ms ys) : ∃ ks : List (Addr × Pr), ys = refs ks ∧ Prs K H ks ∧ prsOf ks = ms.map f := by
  induction a with
  | nil => exact ⟨[], rfl, Prs.nil, rfl⟩
  | @cons m y ms ys h _ ih =>
    obtain ⟨t, rfl, h⟩ := h
    obtain ⟨ks, rfl, pr, e⟩ := ih
    refine ⟨(t, f m) :: ks, rfl, fun q hq => ?_, ?_⟩
    · rcases List.mem_cons.mp hq with rfl | hq
      · exact h
      · exact pr q hq
    · show f m :: prsOf ks = _
      rw [e]
      rfl
theorem u65 {k : Nat} {A : Around} (r : L2.Room k A) : A.units + 65 < cLine := by
  have := r.un
  omega
/-! ### data of pairs -/
def prD (p : Pr) : PyData := .tuple [.int (p.1 : Int), .int (p.2 : Int)]
def prsD (ps : List Pr) : PyData := .list (ps.map prD)
theorem dp_pr {K : PySem.W.Frag} {H : Hp} {t : Addr} {p : Pr} (h : SqT K H t (prV p)) : Dp K H (.ref t) (prD p) := .tup h (.cons (.int _) (.cons (.int _) .nil))
theorem dps_pr {K : PySem.W.Frag} {H : Hp} : ∀ {ks : List (Addr × Pr)}, Prs K H ks → DpAll K H (refs ks) ((prsOf ks).map prD)
  | [], _ => .nil
  | q :: ks, h => .cons (dp_pr (h q (.head _))) (dps_pr fun z hz => h z (.tail _ hz))
theorem eqv_pr (p q : Pr) : PyData.eqv (prD p) (prD q) = decide (p = q) := by
  show (((p.1 : Int) == (q.1 : Int)) && (((p.2 : Int) == (q.2 : Int)) && true)) = _
  rw [Bool.and_true]
  by_cases e : p = q
  · subst e
    rw [decide_eq_true rfl]
    simp
  · rw [decide_eq_false e]
    refine Bool.eq_false_iff.mpr fun z => e ?_
    rw [Bool.and_eq_true, beq_iff_eq, beq_iff_eq] at z
    exact Prod.ext (Int.ofNat.inj z.1) (Int.ofNat.inj z.2)
theorem any_pr (ps : List Pr) (p : Pr) : ((ps.map prD).any fun z => PyData.eqv z (prD p)) = decide (p ∈ ps) := by
  induction ps with
  | nil => rfl
  | cons x r ih =>
    rw [List.map_cons, List.any_cons, ih, eqv_pr]
    simp only [List.mem_cons, Bool.decide_or]
    congr 1
    exact decide_eq_decide.mpr eq_comm
theorem eqv_prs : ∀ (ps qs : List Pr), PyData.eqvAll (ps.map prD) (qs.map prD) = decide (ps = qs)
  | [], [] => rfl
  | [], _ :: _ => rfl
  | _ :: _, [] => rfl
  | p :: ps, q :: qs => by
    show (PyData.eqv (prD p) (prD q) && PyData.eqvAll (ps.map prD) (qs.map prD)) = _
    rw [eqv_prs ps qs, eqv_pr, ← Bool.decide_and]
    exact decide_eq_decide.mpr (by rw [List.cons.injEq])
theorem seq_at {k n : Nat} (h : k < n) : seqIndex? (k : Int) n = some k := by
  unfold seqIndex?
  have h1 : ¬ ((k : Int) < 0) := by omega
  rw [if_neg h1]
  have h2 : (decide ((0 : Int) ≤ (k : Int)) && decide ((k : Int) < (n : Int))) = true := by
    rw [decide_eq_true (by omega : (0 : Int) ≤ (k : Int)), decide_eq_true (by omega : (k : Int) < (n : Int))]
    rfl
  simp only [h2, if_true]
  rfl
theorem erase_perm {α : Type} : ∀ {l : List α} {k : Nat} (h : k < l.length), (l[k] :: l.eraseIdx k).Perm l
  | x :: r, 0, _ => .refl _
  | x :: r, k + 1, h => by
    show (r[k]'(by simpa using h) :: x :: r.eraseIdx k).Perm (x :: r)
    exact (List.Perm.swap _ _ _).trans ((erase_perm (l := r) (k := k) (by simpa using h)).cons x)
def reprB (b : Bool) : Str := if b then "True" else "False"
theorem call_repr_bl {X : Cx} : CallR X (.builtin "repr") (fun xs H Q => ∃ b, xs = [.bl b] ∧ Q (.str (reprB b)) H) := by
  intro pins s σ H xs us Q I r h
  obtain ⟨b, rfl, q⟩ := h
  obtain ⟨u, rfl, t⟩ := vals1 r
  cases t
  exact PySem.P.repr_of_bool ⟨.str _, H, I.tok _, ⟨_, rfl⟩, q⟩
theorem small1000 {n : Nat} (h : n < 1000) : n < sizeLine := Nat.lt_trans h (by decide)
theorem len_app (a b : Str) : (a ++ b).length = a.length + b.length := by
  show (a.cps ++ b.cps).size = a.cps.size + b.cps.size
  exact Array.size_append ..
theorem small_log (n : Nat) (h : n < 10000) : ((n : Int)).natAbs.log2 < 1920 := by
  have e : ((n : Int)).natAbs = n := rfl
  rw [e]
  by_cases z : n = 0
  · subst z
    decide
  · exact Nat.lt_trans ((Nat.log2_lt z).mpr (show n < 2 ^ 14 by omega)) (by decide)
end SQ
namespace SQ
open PySem PySem.Spec PyProof.Rows L2
theorem lays_prs : ∀ ps : List Pr, PyData.canLayAll0 (ps.map prD) = true
  | [] => rfl
  | p :: r => by
    show (PyData.canLay0 (prD p) && PyData.canLayAll0 (r.map prD)) = true
    rw [lays_prs r]
    rfl
theorem deep_prs : ∀ ps : List Pr, PyData.depthAll (ps.map prD) ≤ 1
  | [] => Nat.zero_le _
  | p :: r => by
    show max (max 0 (max 0 0) + 1) (PyData.depthAll (r.map prD)) ≤ 1
    have := deep_prs r
    omega
theorem shaped_prs {ps : List Pr} : SeqAt.shaped (prsD ps) = true := by
  unfold SeqAt.shaped
  rw [show PyData.canLay0 (prsD ps) = true from lays_prs ps, decide_eq_true (show PyData.depth (prsD ps) ≤ 64 by
    show PyData.depthAll (ps.map prD) + 1 ≤ 64
    have := deep_prs ps
    omega)]
  rfl
theorem shaped_prsT {ps : List Pr} : SeqAt.shaped (.tuple (ps.map prD)) = true := by
  unfold SeqAt.shaped
  rw [show PyData.canLay0 (.tuple (ps.map prD)) = true from lays_prs ps, decide_eq_true (show PyData.depth (.tuple (ps.map prD)) ≤ 64 by
    show PyData.depthAll (ps.map prD) + 1 ≤ 64
    have := deep_prs ps
    omega)]
  rfl
/-- a list is changed: tuples stay -/
theorem sqT_set {K : PySem.W.Frag} {H : Hp} {D t : Addr} {o : HO} {xs ys : List V} (e : H D = some (.lst ys)) (h : SqT K H t xs) : SqT K (upd H D o) t xs := by
  have n : ∀ {u : HO}, H t = some u → (∀ zs, u ≠ .lst zs) → t ≠ D := fun h1 h2 z => by
    rw [z, e] at h1
    exact h2 _ (Option.some.inj h1).symm
  rcases h with (h | ⟨o', h⟩) | h
  · exact .inl (.inl (by rw [upd_ne (n h (by intro zs q; cases q))]; exact h))
  · exact .inl (.inr ⟨o', by rw [upd_ne (n h (by intro zs q; cases q))]; exact h⟩)
  · exact .inr h
theorem Prs.set {K : PySem.W.Frag} {H : Hp} {D : Addr} {o : HO} {ys : List V} {ks : List (Addr × Pr)} (g : Prs K H ks) (e : H D = some (.lst ys)) : Prs K (upd H D o) ks := fun q hq => sqT_set e (g q hq)
theorem Same.none {H H' : Hp} {l : Addr} (s : Same H H') (h : H' l = none) : H l = none := by
  cases e : H l with
  | none => rfl
  | some o =>
    rw [s _ _ e] at h
    cases h
end SQ
namespace SQ
open PySem PySem.Spec PyProof.Rows L2
def pows : List V := [.int 1, .int 2, .int 4, .int 8, .int 16, .int 32, .int 64, .int 128, .int 256, .int 512, .int 1024, .int 2048]
theorem pows_at : ∀ k : Nat, k < 12 → pows[k]? = some (V.int ((2 ^ k : Nat) : Int)) := by decide +kernel
def ofPr (q : Addr × Pr) : Addr × List Int := (q.1, [(q.2.1 : Int), (q.2.2 : Int)])
theorem ofPr_back : ∀ {L : List (Addr × List Int)} {ks : List (Addr × Pr)}, (∀ p ∈ L, p ∈ ks.map ofPr) → ∃ M : List (Addr × Pr), L = M.map ofPr ∧ ∀ q ∈ M, q ∈ ks
  | [], _, _ => ⟨[], rfl, fun q h => nomatch h⟩
  | p :: L, ks, h => by
    obtain ⟨x, hx, rfl⟩ := List.mem_map.mp (h p (.head _))
    obtain ⟨M, e, hm⟩ := ofPr_back (L := L) (ks := ks) fun q hq => h q (.tail _ hq)
    refine ⟨x :: M, by rw [e]; rfl, fun q hq => ?_⟩
    rcases List.mem_cons.mp hq with rfl | hq
    · exact hx
    · exact hm q hq
theorem ofPr_snd (q q' : Addr × Pr) (h : (ofPr q).2 = (ofPr q').2) : q.2 = q'.2 := by
  injection h with h1 h2
  injection h2 with h2 _
  exact Prod.ext (Int.ofNat.inj h1) (Int.ofNat.inj h2)
theorem ofPr_nodup {M : List (Addr × Pr)} (h : ((M.map ofPr).map (·.2)).Nodup) : (prsOf M).Nodup := by
  rw [List.map_map] at h
  rw [List.nodup_iff_pairwise_ne, List.pairwise_map] at h ⊢
  exact List.Pairwise.imp (fun n e => n (by
    show [((_ : Pr).1 : Int), _] = [((_ : Pr).1 : Int), _]
    rw [e])) h
end SQ
namespace SQ
open PySem PySem.Spec PyProof.Rows L2
theorem sz_len {m : Nat} {b : Bool} (h : 1 ≤ m ∧ m ≤ 3) : (Str.ofString (toString ((2 ^ (m * en m b) : Nat) : Int))).length ≤ 4 := by
  have three : m = 1 ∨ m = 2 ∨ m = 3 := by omega
  rcases three with rfl | rfl | rfl <;> cases b <;> decide +kernel
theorem m_len {m : Nat} (h : 1 ≤ m ∧ m ≤ 3) : (Str.ofString (toString (m : Int))).length ≤ 1 := by
  have three : m = 1 ∨ m = 2 ∨ m = 3 := by omega
  rcases three with rfl | rfl | rfl <;> decide +kernel
theorem ifC {b : Bool} {x y : Str} {σ : L2.St} {H : Hp} {Q : V → Hp → Prop} (h : Q (.str (if b = true then x else y)) H) : if b = true then tC (.str x) σ H Q else tC (.str y) σ H Q := by
  cases b
  · exact iteF h
  · exact iteT h
theorem mk_same {C x dx : Addr} {H H' : Hp} (nx : H x = none) (ndx : H dx = none) (k : ∀ c o, c ≠ x → upd (upd H dx (.own x)) x (.ins C dx []) c = some o → H' c = some o) : Same H H' := fun c o e => k c o (ne_of_none e nx) (by rw [upd_ne (ne_of_none e nx), upd_ne (ne_of_none e ndx)]; exact e)
end SQ
namespace SQ
open PySem PySem.Spec PyProof.Rows L2
theorem kit_self {K : PySem.W.Frag} {C : Addr} : PySem.W.kitOne K (.ref C) (.ref C) = some true := by
  unfold PySem.W.kitOne
  rw [if_pos (by simp)]
theorem kit_own {K : PySem.W.Frag} {C : Addr} {T : String} (h1 : PySem.W.isClsIn K C = true) (h2 : PySem.W.typeIn K (.ref C) = some (.type "type")) (h3 : PySem.W.subIn K (.type T) (.ref C) = some false) : PySem.W.kitOne K (.type T) (.ref C) = some false := by
  unfold PySem.W.kitOne
  rw [if_neg (by simp)]
  have e2 : ((PySem.W.clsIn K C).isSome && PySem.W.typeIn K (.ref C) == some (.type "type")) = true := by
    have h1' : (PySem.W.clsIn K C).isSome = true := h1
    rw [h1', h2] <;> rfl
  show (if ((PySem.W.clsIn K C).isSome && PySem.W.typeIn K (.ref C) == some (.type "type")) = true then PySem.W.subIn K (.type T) (.ref C) else none) = some false
  rw [if_pos e2]
  exact h3
end SQ

set_option Elab.async false
set_option linter.all false
set_option maxRecDepth 100000
set_option maxHeartbeats 4000000
/-! one relation after another one -/
namespace SQ
open PySem PySem.Spec PyProof.Rows L2
def cbit (m e r s a b : Nat) : Bool := (decide (m ≤ b) && r.testBit (a * e + b)) || (List.range m).any fun c => r.testBit (a * e + c) && s.testBit (c * e + b)
def compN (m e r s : Nat) : Nat := orP ((List.range (m * e)).filter fun j => cbit m e r s (j / e) (j % e))
theorem comp_bit (m e r s j : Nat) : (compN m e r s).testBit j = (decide (j < m * e) && cbit m e r s (j / e) (j % e)) := by
  unfold compN
  rw [orP_bit]
  by_cases h : j < m * e
  · rw [decide_eq_true h, Bool.true_and]
    cases hc : cbit m e r s (j / e) (j % e) with
    | true => exact decide_eq_true (List.mem_filter.mpr ⟨List.mem_range.mpr h, hc⟩)
    | false => exact decide_eq_false fun z => by rw [(List.mem_filter.mp z).2] at hc; cases hc
  · rw [decide_eq_false h, Bool.false_and]
    exact decide_eq_false fun z => h (List.mem_range.mp (List.mem_filter.mp z).1)
theorem comp_lt (m e r s : Nat) : compN m e r s < 2 ^ (m * e) := Nat.lt_pow_two_of_testBit _ fun j hj => by
  rw [comp_bit, decide_eq_false (by omega), Bool.false_and]
theorem div_at {e a b : Nat} (h : b < e) : (a * e + b) / e = a := cd_fst (p := (a, b)) h
theorem mod_at {e a b : Nat} (h : b < e) : (a * e + b) % e = b := cd_snd (p := (a, b)) h
theorem at_lt {m e a b : Nat} (ha : a < m) (h : b < e) : a * e + b < m * e := by
  have := Nat.mul_le_mul_right e (show a + 1 ≤ m from ha)
  rw [Nat.succ_mul] at this
  omega
theorem comp_at {m e r s a b : Nat} (ha : a < m) (hb : b < e) : (compN m e r s).testBit (a * e + b) = cbit m e r s a b := by
  rw [comp_bit, div_at hb, mod_at hb, decide_eq_true (at_lt ha hb), Bool.true_and]
/-- relations are told by their pairs -/
theorem ext_pr {m e r s : Nat} (he : 0 < e) (hr : r < 2 ^ (m * e)) (hs : s < 2 ^ (m * e)) (h : ∀ a b, a < m → b < e → r.testBit (a * e + b) = s.testBit (a * e + b)) : r = s := Nat.eq_of_testBit_eq fun j => by
  by_cases hj : j < m * e
  · have h1 : j / e < m := (Nat.div_lt_iff_lt_mul he).mpr hj
    have h2 := h (j / e) (j % e) h1 (Nat.mod_lt _ he)
    rw [show j / e * e + j % e = j from cd_div j] at h2
    exact h2
  · have up : ∀ x, x < 2 ^ (m * e) → x.testBit j = false := fun x hx => Nat.testBit_lt_two_pow (Nat.lt_of_lt_of_le hx (Nat.pow_le_pow_right (by decide) (by omega)))
    rw [up r hr, up s hs]
theorem cbit_iff {m e r s a b : Nat} : cbit m e r s a b = true ↔ (m ≤ b ∧ r.testBit (a * e + b) = true) ∨ ∃ c, c < m ∧ r.testBit (a * e + c) = true ∧ s.testBit (c * e + b) = true := by
  unfold cbit
  rw [Bool.or_eq_true, Bool.and_eq_true, decide_eq_true_eq, List.any_eq_true]
  constructor
  · rintro (h | ⟨c, h1, h2⟩)
    · exact .inl h
    · rw [Bool.and_eq_true] at h2
      exact .inr ⟨c, List.mem_range.mp h1, h2⟩
  · rintro (h | ⟨c, h1, h2⟩)
    · exact .inl h
    · exact .inr ⟨c, List.mem_range.mpr h1, by rw [Bool.and_eq_true]; exact h2⟩
theorem bool_ext {x y : Bool} (h : x = true ↔ y = true) : x = y := by
  cases x <;> cases y <;> simp_all
theorem comp_assoc {m e r s t : Nat} (hme : m ≤ e) (he : 0 < e) : compN m e (compN m e r s) t = compN m e r (compN m e s t) := by
  refine ext_pr he (comp_lt ..) (comp_lt ..) fun a b ha hb => ?_
  rw [comp_at ha hb, comp_at ha hb]
  refine bool_ext ?_
  rw [cbit_iff, cbit_iff]
  constructor
  · rintro (⟨h1, h2⟩ | ⟨c, hc, h1, h2⟩)
    · rw [comp_at ha hb, cbit_iff] at h2
      rcases h2 with ⟨_, h2⟩ | ⟨c, hc, h2, h3⟩
      · exact .inl ⟨h1, h2⟩
      · refine .inr ⟨c, hc, h2, ?_⟩
        rw [comp_at hc hb, cbit_iff]
        exact .inl ⟨h1, h3⟩
    · rw [comp_at ha (by omega), cbit_iff] at h1
      rcases h1 with ⟨h1, _⟩ | ⟨d, hd, h3, h4⟩
      · omega
      · refine .inr ⟨d, hd, h3, ?_⟩
        rw [comp_at hd hb, cbit_iff]
        exact .inr ⟨c, hc, h4, h2⟩
  · rintro (⟨h1, h2⟩ | ⟨c, hc, h1, h2⟩)
    · refine .inl ⟨h1, ?_⟩
      rw [comp_at ha hb, cbit_iff]
      exact .inl ⟨h1, h2⟩
    · rw [comp_at hc hb, cbit_iff] at h2
      rcases h2 with ⟨h2, h3⟩ | ⟨d, hd, h3, h4⟩
      · refine .inl ⟨h2, ?_⟩
        rw [comp_at ha hb, cbit_iff]
        exact .inr ⟨c, hc, h1, h3⟩
      · refine .inr ⟨d, hd, ?_, h4⟩
        rw [comp_at ha (by omega), cbit_iff]
        exact .inr ⟨c, hc, h1, h3⟩
theorem same_bit {m e a b : Nat} (hme : m ≤ e) (ha : a < m) (hb : b < e) : (sameN m e).testBit (a * e + b) = decide (a = b) := by
  unfold sameN
  rw [orP_bit]
  refine decide_eq_decide.mpr ⟨fun h => ?_, fun h => ?_⟩
  · obtain ⟨i, hi, z⟩ := List.mem_map.mp h
    have hi := List.mem_range.mp hi
    have h1 := congrArg (· / e) z
    have h2 := congrArg (· % e) z
    simp only [div_at hb, mod_at hb, div_at (show i < e by omega), mod_at (show i < e by omega)] at h1 h2
    omega
  · subst h
    exact List.mem_map.mpr ⟨a, List.mem_range.mpr ha, rfl⟩
theorem same_lt {m e : Nat} (hme : m ≤ e) : sameN m e < 2 ^ (m * e) := Nat.lt_pow_two_of_testBit _ fun j hj => by
  unfold sameN
  rw [orP_bit]
  refine decide_eq_false fun h => ?_
  obtain ⟨i, hi, z⟩ := List.mem_map.mp h
  have hi := List.mem_range.mp hi
  have := at_lt (e := e) hi (show i < e by omega)
  omega
theorem comp_same {m e r : Nat} (hme : m ≤ e) (he : 0 < e) (hr : r < 2 ^ (m * e)) : compN m e r (sameN m e) = r := by
  refine ext_pr he (comp_lt ..) hr fun a b ha hb => ?_
  rw [comp_at ha hb]
  refine bool_ext ?_
  rw [cbit_iff]
  constructor
  · rintro (⟨_, h2⟩ | ⟨c, hc, h1, h2⟩)
    · exact h2
    · rw [same_bit hme hc hb, decide_eq_true_eq] at h2
      subst h2
      exact h1
  · intro h
    by_cases hm : m ≤ b
    · exact .inl ⟨hm, h⟩
    · exact .inr ⟨b, by omega, h, by rw [same_bit hme (by omega) hb]; exact decide_eq_true rfl⟩
theorem same_comp {m e r : Nat} (hme : m ≤ e) (he : 0 < e) (hr : r < 2 ^ (m * e)) : compN m e (sameN m e) r = r := by
  refine ext_pr he (comp_lt ..) hr fun a b ha hb => ?_
  rw [comp_at ha hb]
  refine bool_ext ?_
  rw [cbit_iff]
  constructor
  · rintro (⟨h1, h2⟩ | ⟨c, hc, h1, h2⟩)
    · rw [same_bit hme ha hb, decide_eq_true_eq] at h2
      omega
    · rw [same_bit hme ha (by omega), decide_eq_true_eq] at h1
      subst h1
      exact h2
  · intro h
    exact .inr ⟨a, ha, by rw [same_bit hme ha (by omega)]; exact decide_eq_true rfl, h⟩
theorem comp_or {m e r s t : Nat} (he : 0 < e) : compN m e r (s ||| t) = compN m e r s ||| compN m e r t := by
  refine ext_pr he (comp_lt ..) (Nat.or_lt_two_pow (comp_lt ..) (comp_lt ..)) fun a b ha hb => ?_
  rw [Nat.testBit_or, comp_at ha hb, comp_at ha hb, comp_at ha hb]
  refine bool_ext ?_
  rw [Bool.or_eq_true, cbit_iff, cbit_iff, cbit_iff]
  constructor
  · rintro (h | ⟨c, hc, h1, h2⟩)
    · exact .inl (.inl h)
    · rw [Nat.testBit_or, Bool.or_eq_true] at h2
      rcases h2 with h2 | h2
      · exact .inl (.inr ⟨c, hc, h1, h2⟩)
      · exact .inr (.inr ⟨c, hc, h1, h2⟩)
  · rintro ((h | ⟨c, hc, h1, h2⟩) | (h | ⟨c, hc, h1, h2⟩))
    · exact .inl h
    · exact .inr ⟨c, hc, h1, by rw [Nat.testBit_or, h2]; rfl⟩
    · exact .inl h
    · exact .inr ⟨c, hc, h1, by rw [Nat.testBit_or, h2, Bool.or_true]⟩
theorem or_comp {m e r s t : Nat} (he : 0 < e) : compN m e (r ||| s) t = compN m e r t ||| compN m e s t := by
  refine ext_pr he (comp_lt ..) (Nat.or_lt_two_pow (comp_lt ..) (comp_lt ..)) fun a b ha hb => ?_
  rw [Nat.testBit_or, comp_at ha hb, comp_at ha hb, comp_at ha hb]
  refine bool_ext ?_
  rw [Bool.or_eq_true, cbit_iff, cbit_iff, cbit_iff]
  constructor
  · rintro (⟨h1, h⟩ | ⟨c, hc, h1, h2⟩)
    · rw [Nat.testBit_or, Bool.or_eq_true] at h
      rcases h with h | h
      · exact .inl (.inl ⟨h1, h⟩)
      · exact .inr (.inl ⟨h1, h⟩)
    · rw [Nat.testBit_or, Bool.or_eq_true] at h1
      rcases h1 with h1 | h1
      · exact .inl (.inr ⟨c, hc, h1, h2⟩)
      · exact .inr (.inr ⟨c, hc, h1, h2⟩)
  · rintro ((⟨h1, h⟩ | ⟨c, hc, h1, h2⟩) | (⟨h1, h⟩ | ⟨c, hc, h1, h2⟩))
    · exact .inl ⟨h1, by rw [Nat.testBit_or, h]; rfl⟩
    · exact .inr ⟨c, hc, by rw [Nat.testBit_or, h1]; rfl, h2⟩
    · exact .inl ⟨h1, by rw [Nat.testBit_or, h, Bool.or_true]⟩
    · exact .inr ⟨c, hc, by rw [Nat.testBit_or, h1, Bool.or_true], h2⟩
/-- the pairs of the watched end -/
def doneL (m : Nat) (ps : List Pr) : List Pr := ps.filter fun p => decide (p.2 = m)
def thenL (m : Nat) (ps qs : List Pr) : List Pr := doneL m ps ++ ps.flatMap fun p => (qs.filter fun q => decide (q.1 = p.2) && decide (p.2 < m)).map fun q => (p.1, q.2)
theorem prs_at {m e r a b : Nat} (hb : b < e) (hr : r < 2 ^ (m * e)) (hme : m * e ≤ 12) : (a, b) ∈ prs e r ↔ r.testBit (a * e + b) = true := by
  rw [mem_prs (by omega)]
  constructor
  · exact fun h => h.2.2
  · intro h
    refine ⟨hb, ?_, h⟩
    refine Nat.lt_of_not_le fun z => ?_
    have h' : r.testBit (cd e (a, b)) = true := h
    rw [Nat.testBit_lt_two_pow (Nat.lt_of_lt_of_le hr (Nat.pow_le_pow_right (by decide) (Nat.le_trans hme z)))] at h'
    cases h'
theorem then_bits {m e r s : Nat} (he : 0 < e) (hm : m ≤ e) (hem : e ≤ m + 1) (hme : m * e ≤ 12) (hr : r < 2 ^ (m * e)) (hs : s < 2 ^ (m * e)) : bitsN e (thenL m (prs e r) (prs e s)) = compN m e r s := by
  have mem : ∀ x : Pr, x ∈ thenL m (prs e r) (prs e s) ↔ (x.1 < m ∧ x.2 < e ∧ cbit m e r s x.1 x.2 = true) := fun x => by
    obtain ⟨a, b⟩ := x
    unfold thenL doneL
    rw [List.mem_append, List.mem_filter, List.mem_flatMap]
    constructor
    · rintro (⟨h1, h2⟩ | ⟨p, hp, h2⟩)
      · have h2 : b = m := of_decide_eq_true h2
        have h3 := prs_small he hr h1
        rw [prs_at h3.2 hr hme] at h1
        exact ⟨h3.1, h3.2, cbit_iff.mpr (.inl ⟨by omega, h1⟩)⟩
      · obtain ⟨q, hq, e2⟩ := List.mem_map.mp h2
        obtain ⟨hq1, hq2⟩ := List.mem_filter.mp hq
        rw [Bool.and_eq_true, decide_eq_true_eq, decide_eq_true_eq] at hq2
        have h3 := prs_small he hr hp
        have h4 := prs_small he hs hq1
        injection e2 with e3 e4
        subst e3 e4
        refine ⟨h3.1, h4.2, cbit_iff.mpr (.inr ⟨p.2, hq2.2, ?_, ?_⟩)⟩
        · exact (prs_at h3.2 hr hme).mp hp
        · rw [← hq2.1]
          exact (prs_at h4.2 hs hme).mp hq1
    · rintro ⟨h1, h2, h3⟩
      rcases cbit_iff.mp h3 with ⟨h4, h5⟩ | ⟨c, hc, h4, h5⟩
      · refine .inl ⟨(prs_at h2 hr hme).mpr h5, decide_eq_true (show b = m by have h2' : b < e := h2; have h4' : m ≤ b := h4; omega)⟩
      · have hce : c < e := by omega
        exact .inr ⟨(a, c), (prs_at hce hr hme).mpr h4, List.mem_map.mpr ⟨(c, b), List.mem_filter.mpr ⟨(prs_at h2 hs hme).mpr h5, by rw [decide_eq_true rfl, decide_eq_true hc]; rfl⟩, rfl⟩⟩
  refine Nat.eq_of_testBit_eq fun j => ?_
  unfold bitsN
  rw [orP_bit, comp_bit]
  refine bool_ext ?_
  rw [decide_eq_true_eq, Bool.and_eq_true, decide_eq_true_eq]
  constructor
  · intro h
    obtain ⟨x, hx, rfl⟩ := List.mem_map.mp h
    obtain ⟨h1, h2, h3⟩ := (mem x).mp hx
    rw [cd_fst h2, cd_snd h2]
    exact ⟨at_lt h1 h2, h3⟩
  · rintro ⟨h1, h2⟩
    exact List.mem_map.mpr ⟨(j / e, j % e), (mem _).mpr ⟨(Nat.div_lt_iff_lt_mul he).mpr h1, Nat.mod_lt _ he, h2⟩, cd_div j⟩
end SQ
namespace SQ
open PySem PySem.Spec PyProof.Rows L2
def rowN (r a e : Nat) : Nat := r / 2 ^ (a * e) % 2 ^ e
theorem row_bit (r a e b : Nat) : (rowN r a e).testBit b = (decide (b < e) && r.testBit (a * e + b)) := by
  unfold rowN
  rw [Nat.testBit_mod_two_pow, Nat.testBit_div_two_pow]
  congr 2
  omega
theorem row_lt (r a e : Nat) : rowN r a e < 2 ^ e := Nat.mod_lt _ (Nat.two_pow_pos _)
theorem row_and (r a e : Nat) : (r / 2 ^ (a * e) &&& (1 * 2 ^ e - 1)) = rowN r a e := by
  rw [Nat.one_mul, Nat.and_two_pow_sub_one_eq_mod]
  rfl
def spRow : Sp := fun vs H Q _ => ∃ r a e : Nat, vs = [.int (r : Int), .int (a : Int), .int (e : Int)] ∧ a ≤ 3 ∧ e ≤ 4 ∧ Q (.int (rowN r a e : Nat)) H
def spFol : Sp := fun vs H Q _ => ∃ r s m e : Nat, vs = [.int (r : Int), .int (s : Int), .int (m : Int), .int (e : Int)] ∧ m ≤ 3 ∧ m ≤ e ∧ e ≤ 4 ∧ Q (.int (compN m e r s : Nat)) H
def gFol : Nat → Nat → Nat → Nat → V := fun m e r s => .int (compN m e r s : Nat)
def spThen (K : PySem.W.Frag) : Sp := fun vs H Q _ => ∃ (m e r s : Nat) (l1 l2 : Addr) (ks ls : List (Addr × Pr)), vs = [.int (m : Int), .int (e : Int), .ref l1, .ref l2] ∧ 1 ≤ e ∧ e ≤ 4 ∧ m * e ≤ 12 ∧ r < 2 ^ (m * e) ∧ s < 2 ^ (m * e) ∧ SqL K H l1 (refs ks) ∧ SqL K H l2 (refs ls) ∧ Prs K H ks ∧ Prs K H ls ∧ prsOf ks = prs e r ∧ prsOf ls = prs e s ∧
  ∀ H' l ns, Same H H' → H l = none → H' l = some (.lst (refs ns)) → Prs K H' ns → ns.length < 64 → (∀ x, x ∈ prsOf ns ↔ x ∈ thenL m (prs e r) (prs e s)) → Q (.ref l) H'
theorem in_len {m e r s : Nat} (he : 0 < e) (hs : s < 2 ^ (m * e)) (w : Nat) : ((prs e s).filter fun q => decide (q.1 = w)).length ≤ e := by
  have nd : (((prs e s).filter fun q => decide (q.1 = w)).map (·.2)).Nodup := nodup_on (fun a ha b hb z => Prod.ext (by
    have h1 := of_decide_eq_true (List.mem_filter.mp ha).2
    have h2 := of_decide_eq_true (List.mem_filter.mp hb).2
    rw [h1, h2]) z) (List.Pairwise.filter _ (prs_nodup e s))
  have := nodup_few _ (List.range e) nd fun x hx => by
    obtain ⟨q, hq, rfl⟩ := List.mem_map.mp hx
    exact List.mem_range.mpr (prs_small he hs (List.mem_filter.mp hq).1).2
  rw [List.length_map, List.length_range] at this
  exact this
end SQ
namespace SQ
open PySem PySem.Spec PyProof.Rows L2
def cpart (m e r s a c b : Nat) : Bool := (decide (m ≤ b) && r.testBit (a * e + b)) || (List.range c).any fun c => r.testBit (a * e + c) && s.testBit (c * e + b)
theorem mul_bit (x k b : Nat) : (x * 2 ^ k).testBit b = (decide (k ≤ b) && x.testBit (b - k)) := by
  rw [Nat.mul_comm, Nat.testBit_two_pow_mul]
theorem part0 (m e r s a b : Nat) : (rowN r a e / 2 ^ m * 2 ^ m).testBit b = (decide (b < e) && cpart m e r s a 0 b) := by
  rw [mul_bit, Nat.testBit_div_two_pow]
  unfold cpart
  rw [List.range_zero, List.any_nil, Bool.or_false]
  by_cases h : m ≤ b
  · rw [decide_eq_true h, Bool.true_and, Bool.true_and, show b - m + m = b by omega, row_bit]
  · rw [decide_eq_false h, Bool.false_and, Bool.false_and, Bool.and_false]
theorem part_s (m e r s a c b : Nat) : cpart m e r s a (c + 1) b = (cpart m e r s a c b || (r.testBit (a * e + c) && s.testBit (c * e + b))) := by
  unfold cpart
  rw [List.range_succ, List.any_append, List.any_cons, List.any_nil, Bool.or_false, Bool.or_assoc]
theorem rel_s {m e r s i rel fnd : Nat} (he : 0 < e) (hr : ∀ j, rel.testBit j = (decide (j < i * e) && cbit m e r s (j / e) (j % e))) (hf : ∀ b, fnd.testBit b = (decide (b < e) && cpart m e r s i m b)) (j : Nat) :
    (rel ||| fnd * 2 ^ (i * e)).testBit j = (decide (j < (i + 1) * e) && cbit m e r s (j / e) (j % e)) := by
  rw [Nat.testBit_or, mul_bit, hr, hf]
  have es : (i + 1) * e = i * e + e := Nat.succ_mul i e
  by_cases h : j < i * e
  · rw [decide_eq_true h, decide_eq_false (show ¬ i * e ≤ j by omega), Bool.false_and, Bool.or_false, decide_eq_true (show j < (i + 1) * e by omega)]
  · rw [decide_eq_false h, Bool.false_and, Bool.false_or, decide_eq_true (show i * e ≤ j by omega), Bool.true_and]
    by_cases h2 : j < (i + 1) * e
    · obtain ⟨b, rfl⟩ : ∃ b, j = i * e + b := ⟨j - i * e, by omega⟩
      have hb : b < e := by omega
      rw [decide_eq_true h2, Bool.true_and, div_at hb, mod_at hb, show i * e + b - i * e = b by omega, decide_eq_true hb, Bool.true_and]
      rfl
    · rw [decide_eq_false h2, Bool.false_and, decide_eq_false (show ¬ j - i * e < e by omega), Bool.false_and]
theorem then_small {m e r s : Nat} (he : 0 < e) (hr : r < 2 ^ (m * e)) (hs : s < 2 ^ (m * e)) {x : Pr} (h : x ∈ thenL m (prs e r) (prs e s)) : x.1 < m ∧ x.2 < e := by
  unfold thenL doneL at h
  rw [List.mem_append, List.mem_filter, List.mem_flatMap] at h
  rcases h with ⟨h, _⟩ | ⟨p, hp, h⟩
  · exact prs_small he hr h
  · obtain ⟨q, hq, rfl⟩ := List.mem_map.mp h
    exact ⟨(prs_small he hr hp).1, (prs_small he hs (List.mem_filter.mp hq).1).2⟩
theorem filter_sub {α : Type} {p q : α → Bool} (h : ∀ x, p x = true → q x = true) : ∀ {l : List α}, (l.filter p).Sublist (l.filter q)
  | [] => .slnil
  | x :: r => by
    by_cases e : p x = true
    · rw [List.filter_cons_of_pos e, List.filter_cons_of_pos (h x e)]
      exact .cons_cons _ (filter_sub h)
    · rw [List.filter_cons_of_neg e]
      by_cases e2 : q x = true
      · rw [List.filter_cons_of_pos e2]
        exact .cons _ (filter_sub h)
      · rw [List.filter_cons_of_neg e2]
        exact filter_sub h
end SQ
namespace SQ
open PySem PySem.Spec PyProof.Rows L2
def doneN (m e r : Nat) : Nat := bitsN e (doneL m (prs e r))
theorem prs_zero (e : Nat) : prs e 0 = [] := by
  unfold prs
  rw [List.filter_eq_nil_iff.mpr fun b _ => by rw [Nat.zero_testBit]; decide]
  rfl
theorem comp_zero {m e r : Nat} (he : 0 < e) (hm : m ≤ e) (hem : e ≤ m + 1) (hme : m * e ≤ 12) (hr : r < 2 ^ (m * e)) : compN m e r 0 = doneN m e r := by
  rw [← then_bits he hm hem hme hr (Nat.two_pow_pos _), prs_zero]
  unfold thenL doneN
  have z : (prs e r).flatMap (fun p => (([] : List Pr).filter fun q => decide (q.1 = p.2) && decide (p.2 < m)).map fun q => (p.1, q.2)) = [] := by
    rw [List.flatMap_eq_nil_iff]
    intro x _
    rfl
  rw [z, List.append_nil]
theorem zero_comp {m e r : Nat} (he : 0 < e) (hm : m ≤ e) (hem : e ≤ m + 1) (hme : m * e ≤ 12) (hr : r < 2 ^ (m * e)) : compN m e 0 r = 0 := by
  rw [← then_bits he hm hem hme (Nat.two_pow_pos _) hr, prs_zero]
  rfl
theorem done_in {m e r s : Nat} (he : 0 < e) (hm : m ≤ e) (hem : e ≤ m + 1) (hme : m * e ≤ 12) (hr : r < 2 ^ (m * e)) (hs : s < 2 ^ (m * e)) : doneN m e r ||| compN m e r s = compN m e r s := by
  rw [← then_bits he hm hem hme hr hs]
  unfold thenL doneN
  rw [bits_app, ← Nat.or_assoc, Nat.or_self]
theorem done_lt {m e r : Nat} (he : 0 < e) (hm : m ≤ e) (hem : e ≤ m + 1) (hme : m * e ≤ 12) (hr : r < 2 ^ (m * e)) : doneN m e r < 2 ^ (m * e) := by
  rw [← comp_zero he hm hem hme hr]
  exact comp_lt ..
theorem en_ge {m : Nat} {b : Bool} : m ≤ en m b ∧ en m b ≤ m + 1 := by
  unfold en
  cases b <;> simp [Bool.toNat]
end SQ
namespace SQ
theorem or_self_l (x y : Nat) : x ||| (x ||| y) = x ||| y := by rw [← Nat.or_assoc, Nat.or_self]
end SQ

set_option Elab.async false
set_option linter.all false
set_option maxRecDepth 100000
set_option maxHeartbeats 4000000
/-! tables -/
namespace SQ
open PySem PySem.Spec PyProof.Rows L2
def inN (r s : Nat) : Bool := decide (r ||| s = s)
def monoB (k : Nat) (f : Nat → Nat) : Bool := (List.range k).all fun bit => (List.range (2 ^ k)).all fun r => inN (f r) (f (r ||| 2 ^ bit))
def monoA (k : Nat) (f : Nat → Nat) : Bool := (List.range (2 ^ k)).all fun r => (List.range (2 ^ k)).all fun s => !(inN r s && !inN (f r) (f s))
theorem in_trans {a b c : Nat} (h1 : a ||| b = b) (h2 : b ||| c = c) : a ||| c = c := by
  rw [← h2, ← Nat.or_assoc, h1]
theorem mod_more (s j : Nat) : s % 2 ^ (j + 1) = s % 2 ^ j ||| (if s.testBit j = true then 2 ^ j else 0) := Nat.eq_of_testBit_eq fun i => by
  rw [Nat.testBit_or, Nat.testBit_mod_two_pow, Nat.testBit_mod_two_pow]
  by_cases e : i = j
  · subst e
    rw [decide_eq_true (Nat.lt_succ_self i), decide_eq_false (Nat.lt_irrefl i), Bool.true_and, Bool.false_and, Bool.false_or]
    cases h : s.testBit i with
    | true => rw [if_pos rfl, Nat.testBit_two_pow, decide_eq_true rfl]
    | false => rw [if_neg (by decide), Nat.zero_testBit]
  · have z : (if s.testBit j = true then 2 ^ j else 0).testBit i = false := by
      split
      · rw [Nat.testBit_two_pow]
        exact decide_eq_false fun z => e z.symm
      · exact Nat.zero_testBit i
    rw [z, Bool.or_false]
    congr 1
    exact decide_eq_decide.mpr (by omega)
theorem mono_steps {k : Nat} {f : Nat → Nat} (h : ∀ bit, bit < k → ∀ r, r < 2 ^ k → f r ||| f (r ||| 2 ^ bit) = f (r ||| 2 ^ bit)) {r s : Nat} (hr : r < 2 ^ k) (hs : s < 2 ^ k) : ∀ j, j ≤ k → f r ||| f (r ||| s % 2 ^ j) = f (r ||| s % 2 ^ j)
  | 0, _ => by rw [Nat.pow_zero, Nat.mod_one, Nat.or_zero, Nat.or_self]
  | j + 1, hj => by
    have ih := mono_steps h hr hs j (by omega)
    rw [mod_more, ← Nat.or_assoc]
    split
    · have hx : r ||| s % 2 ^ j < 2 ^ k := Nat.or_lt_two_pow hr (Nat.lt_of_le_of_lt (Nat.mod_le _ _) hs)
      exact in_trans ih (h j (by omega) _ hx)
    · rw [Nat.or_zero]
      exact ih
theorem mono_eq (k : Nat) (f : Nat → Nat) : monoB k f = monoA k f := bool_ext (by
  unfold monoA monoB inN
  simp only [List.all_eq_true, List.mem_range, decide_eq_true_eq, Bool.not_eq_true', Bool.and_eq_false_iff, decide_eq_false_iff_not, Bool.not_eq_false]
  constructor
  · intro h r hr s hs
    by_cases c : r ||| s = s
    · refine .inr ?_
      have := mono_steps h hr hs k (Nat.le_refl k)
      rw [Nat.mod_eq_of_lt hs, c] at this
      rw [decide_eq_true this]
      rfl
    · exact .inl c
  · intro h bit hb r hr
    have hb2 : 2 ^ bit < 2 ^ k := Nat.pow_lt_pow_right (by decide) hb
    rcases h r hr (r ||| 2 ^ bit) (Nat.or_lt_two_pow hr hb2) with z | z
    · exact absurd (or_self_l r (2 ^ bit)) z
    · exact of_decide_eq_true (by rw [Bool.not_eq_false'] at z; exact z))
abbrev tbV (xs : List Nat) : List V := xs.map fun n : Nat => V.int (n : Int)
def tf (xs : List Nat) : Nat → Nat := fun r => xs.getD r 0
structure Tb (K : PySem.W.Frag) (H : Hp) (p : Addr) (k : Nat) (xs : List Nat) : Prop where
  sq : SqT K H p (tbV xs)
  len : xs.length = 2 ^ k
  lt : ∀ x ∈ xs, x < 2 ^ k
theorem Tb.same {K : PySem.W.Frag} {H H' : Hp} {p : Addr} {k : Nat} {xs : List Nat} (t : Tb K H p k xs) (s : Same H H') : Tb K H' p k xs := ⟨Same.sqT s t.sq, t.len, t.lt⟩
theorem Tb.go {K : PySem.W.Frag} {H H' : Hp} {p a : Addr} {k : Nat} {xs : List Nat} (t : Tb K H p k xs) (d : Die H a) (g : Go a H H') : Tb K H' p k xs := ⟨Go.sqT d g t.sq, t.len, t.lt⟩
theorem Tb.at {K : PySem.W.Frag} {H : Hp} {p : Addr} {k : Nat} {xs : List Nat} (t : Tb K H p k xs) {r : Nat} (h : r < 2 ^ k) : (tbV xs)[r]? = some (V.int (tf xs r : Nat)) ∧ tf xs r < 2 ^ k := by
  have hl : r < xs.length := by rw [t.len]; exact h
  have e : tf xs r = xs[r] := by
    unfold tf
    rw [List.getD_eq_getElem?_getD, List.getElem?_eq_getElem hl]
    rfl
  rw [e]
  refine ⟨?_, t.lt _ (List.getElem_mem hl)⟩
  rw [List.getElem?_map, List.getElem?_eq_getElem hl]
  rfl
/-- None, a bool, a whole number -/
def Atm (x : V) : Prop := x = .non ∨ (∃ b, x = .bl b) ∨ ∃ i, x = .int i
theorem Atm.pl {K : PySem.W.Frag} {H : Hp} {x : V} (h : Atm x) : Pl K H x := by
  rcases h with rfl | ⟨b, rfl⟩ | ⟨i, rfl⟩
  · exact .non
  · exact .bl b
  · exact .int i
/-- what is no tuple -/
inductive NoT (H : Hp) : V → Prop
  | non : NoT H .non
  | int (i : Int) : NoT H (.int i)
  | lst {p : Addr} {xs : List V} (e : H p = some (.lst xs)) : NoT H (.ref p)
  | dct {p : Addr} {kvs : List (Key × V)} (e : H p = some (.dK kvs)) : NoT H (.ref p)
def spIsTbl (C : Addr) (K : PySem.W.Frag) : Sp := fun vs H Q _ => ∃ (p : Addr) (m : Nat) (b : Bool) (v : V), vs = [.ref p, v] ∧ SpAt C H p m b ∧
  ((∃ t xs, v = .ref t ∧ SqT K H t xs ∧ (∀ x ∈ xs, Atm x) ∧ xs.length ≤ 5000 ∧ ∀ H', Same H H' → Q (.bl (decide (xs.length = 2 ^ (m * en m b)) && xs.all (inB 0 ((2 ^ (m * en m b) : Nat) - 1)))) H') ∨ (NoT H v ∧ Q (.bl false) H))
def spChkTbl (C : Addr) (K : PySem.W.Frag) : Sp := fun vs H Q _ => ∃ (p t : Addr) (m : Nat) (b : Bool) (xs : List Nat), vs = [.ref p, .ref t] ∧ SpAt C H p m b ∧ Tb K H t (m * en m b) xs ∧ ∀ H', Same H H' → Q .non H'
def spMono (C : Addr) (K : PySem.W.Frag) : Sp := fun vs H Q _ => ∃ (p t : Addr) (m : Nat) (b : Bool) (xs : List Nat), vs = [.ref p, .ref t] ∧ SpAt C H p m b ∧ Tb K H t (m * en m b) xs ∧ ∀ H', Same H H' → Q (.bl (monoB (m * en m b) (tf xs))) H'
def spComp (C : Addr) (K : PySem.W.Frag) : Sp := fun vs H Q _ => ∃ (p t u : Addr) (m : Nat) (b : Bool) (xs ys : List Nat), vs = [.ref p, .ref t, .ref u] ∧ SpAt C H p m b ∧ Tb K H t (m * en m b) xs ∧ Tb K H u (m * en m b) ys ∧ ∀ H' l, Same H H' → Tb K H' l (m * en m b) (ys.map (tf xs)) → Q (.ref l) H'
def szL (m : Nat) (b : Bool) : List V := [.int (en m b : Nat), .int ((2 ^ (m * en m b) : Nat) : Int)]
def spLMono (K : PySem.W.Frag) : Sp := fun vs H Q _ => ∃ (Z t : Addr) (m : Nat) (b : Bool) (xs : List Nat), vs = [.ref Z, .ref t] ∧ SqL K H Z (szL m b) ∧ 1 ≤ m ∧ m ≤ 2 ∧ Tb K H t (m * en m b) xs ∧ ∀ H', Same H H' → Q (.bl (monoA (m * en m b) (tf xs))) H'
def spTable (K : PySem.W.Frag) : Sp := fun vs H Q _ => ∃ (a Z : Addr) (m : Nat) (b : Bool), vs = [.ref a, .ref Z] ∧ Die H a ∧ Z ≠ a ∧ H Z = some (.lst (szL m b)) ∧ 1 ≤ m ∧ m ≤ 2 ∧ ∀ H' t xs, Go a H H' → Tb K H' t (m * en m b) xs → Q (.ref t) H'
theorem tb_all {k : Nat} {xs : List Nat} (h : ∀ x ∈ xs, x < 2 ^ k) : (tbV xs).all (inB 0 ((2 ^ k : Nat) - 1)) = true := by
  rw [List.all_eq_true]
  intro v hv
  obtain ⟨n, hn, rfl⟩ := List.mem_map.mp hv
  have := h n hn
  show (decide ((0 : Int) ≤ (n : Int)) && decide ((n : Int) ≤ _)) = true
  rw [decide_eq_true (by omega), decide_eq_true (by omega)]
  rfl
theorem tb_atm {xs : List Nat} : ∀ x ∈ tbV xs, Atm x := fun x hx => by
  obtain ⟨n, _, rfl⟩ := List.mem_map.mp hx
  exact .inr (.inr ⟨_, rfl⟩)
end SQ
namespace SQ
open PySem PySem.Spec PyProof.Rows L2
theorem Al.get {α : Type} {Φ : α → V → Prop} {ms : List α} {ys : List V} (a : Al Φ ms ys) : ∀ {i : Nat} {m : α}, ms[i]? = some m → ∃ y, ys[i]? = some y ∧ Φ m y := by
  induction a with
  | nil => intro i m h; cases i <;> cases h
  | cons h _ ih =>
    intro i m e
    cases i with
    | zero => cases e; exact ⟨_, rfl, h⟩
    | succ i => exact ih (i := i) e
theorem go_set {a D : Addr} {H H' : Hp} {o : HO} (g : Go a H H') (n : H D = none) (na : D ≠ a) : Go a H (upd H' D o) := ⟨fun c u m e => by
  rw [upd_ne (ne_of_none e n)]
  exact g.1 c u m e, by
  obtain ⟨x, y, z, e⟩ := g.2
  exact ⟨x, y, z, by rw [upd_ne na.symm]; exact e⟩⟩
theorem bits_lt {m e : Nat} {ps : List Pr} (h : ∀ x ∈ ps, x.1 < m ∧ x.2 < e) : bitsN e ps < 2 ^ (m * e) := Nat.lt_pow_two_of_testBit _ fun j hj => by
  unfold bitsN
  rw [orP_bit]
  refine decide_eq_false fun z => ?_
  obtain ⟨x, hx, rfl⟩ := List.mem_map.mp z
  have h1 := h x hx
  have h2 := at_lt h1.1 h1.2
  have h3 : cd e x = x.1 * e + x.2 := rfl
  omega
/-- a list of pairs, at an address -/
def LsAt (K : PySem.W.Frag) (H : Hp) (e r : Nat) (y : V) : Prop := ∃ l ks, y = .ref l ∧ H l = some (.lst (refs ks)) ∧ Prs K H ks ∧ prsOf ks = prs e r
theorem LsAt.same {K : PySem.W.Frag} {H H' : Hp} {e r : Nat} {y : V} (h : LsAt K H e r y) (s : Same H H') : LsAt K H' e r y := by
  obtain ⟨l, ks, rfl, h1, h2, h3⟩ := h
  exact ⟨l, ks, rfl, s _ _ h1, Prs.same h2 s, h3⟩
theorem prs_few {e r : Nat} {ks : List (Addr × Pr)} (h : prsOf ks = prs e r) : ks.length ≤ 12 := by
  have h1 : (prsOf ks).length = ks.length := List.length_map ..
  rw [← h1, h]
  exact prs_len _ _
theorem men6 {m : Nat} {b : Bool} (h1 : 1 ≤ m) (h2 : m ≤ 2) : m * en m b ≤ 6 := by
  have h : m = 1 ∨ m = 2 := by omega
  rcases h with rfl | rfl <;> cases b <;> decide
end SQ
namespace SQ
open PySem PySem.Spec PyProof.Rows L2
theorem al_nat {α : Type} {N : Nat} {ms : List α} {ys : List V} (a : Al (fun _ y => ∃ r : Nat, y = .int (r : Int) ∧ r < N) ms ys) : ∃ xs : List Nat, ys = tbV xs ∧ ∀ x ∈ xs, x < N := by
  induction a with
  | nil => exact ⟨[], rfl, fun x h => nomatch h⟩
  | cons h _ ih =>
    obtain ⟨r, rfl, hr⟩ := h
    obtain ⟨xs, rfl, hx⟩ := ih
    refine ⟨r :: xs, rfl, fun x h => ?_⟩
    rcases List.mem_cons.mp h with rfl | h
    · exact hr
    · exact hx x h
theorem rep_one {v : V} : ∀ (n : Nat), (List.replicate n [v]).flatten = List.replicate n v
  | 0 => rfl
  | n + 1 => by
    rw [List.replicate_succ, List.flatten_cons, rep_one n, List.replicate_succ]
    rfl
end SQ
namespace SQ
open PySem PySem.Spec PyProof.Rows L2
theorem Al.val {α : Type} {Φ : α → V → Prop} {ms : List α} {ys : List V} (a : Al Φ ms ys) : ∀ {i : Nat} {y : V}, ys[i]? = some y → ∃ m, Φ m y := by
  induction a with
  | nil => intro i m h; cases i <;> cases h
  | cons h _ ih =>
    intro i y e
    cases i with
    | zero => cases e; exact ⟨_, h⟩
    | succ i => exact ih (i := i) e
theorem ixN_at {n j : Nat} (h : j < n) : ixN n (j : Int) = some j := by
  unfold ixN
  rw [if_pos (by omega), if_pos (by omega)]
  rfl
end SQ
namespace SQ
open PySem PySem.Spec PyProof.Rows L2
theorem neg_ix (n d : Nat) : HT.sIx n d (some (-1)) = n - 1 := by
  show (if (-1 : Int) < 0 then ((-1 : Int) + (n : Int)).toNat else min (-1 : Int).toNat n) = n - 1
  rw [if_pos (by omega)]
  omega
theorem one_ix (n d : Nat) (h : 1 ≤ n) : HT.sIx n d (some 1) = 1 := (HT.sIx_nat n d 1).trans (by omega)
theorem cut_tail {xs : List V} (h : 2 ≤ xs.length) : ¬ (HT.sIx xs.length 0 (some 1) = 0 ∧ HT.sIx xs.length xs.length none = xs.length) ∧ cutV xs (some 1) none = xs.drop 1 := by
  refine ⟨fun z => ?_, ?_⟩
  · rw [one_ix _ _ (by omega)] at z
    omega
  · show (xs.drop (HT.sIx xs.length 0 (some 1))).take (xs.length - HT.sIx xs.length 0 (some 1)) = _
    rw [one_ix _ _ (by omega), List.take_of_length_le (by rw [List.length_drop]; exact Nat.le_refl _)]
theorem cut_init {xs : List V} (h : 2 ≤ xs.length) : ¬ (HT.sIx xs.length 0 none = 0 ∧ HT.sIx xs.length xs.length (some (-1)) = xs.length) ∧ cutV xs none (some (-1)) = xs.take (xs.length - 1) := by
  refine ⟨fun z => ?_, ?_⟩
  · rw [neg_ix] at z
    omega
  · show (xs.drop 0).take (HT.sIx xs.length xs.length (some (-1)) - 0) = _
    rw [neg_ix]
    rfl
/-- a value that is no table -/
def Odd (K : PySem.W.Frag) (a : Addr) (N : Nat) (H : Hp) (v : V) : Prop := (∃ t xs, v = .ref t ∧ SqT K H t xs ∧ (∀ x ∈ xs, Atm x) ∧ xs.length ≤ 5000 ∧ (decide (xs.length = N) && xs.all (inB 0 ((N : Nat) - 1))) = false) ∨ (NoT H v ∧ ∀ p, v = .ref p → p ≠ a)
theorem Odd.go {K : PySem.W.Frag} {a : Addr} {N : Nat} {H H' : Hp} {v : V} (o : Odd K a N H v) (d : Die H a) (g : Go a H H') : Odd K a N H' v := by
  rcases o with ⟨t, xs, rfl, h1, h2⟩ | ⟨h, n⟩
  · exact .inl ⟨t, xs, rfl, Go.sqT d g h1, h2⟩
  · refine .inr ⟨?_, n⟩
    cases h with
    | non => exact .non
    | int i => exact .int i
    | lst e => exact .lst (g.1 _ _ (n _ rfl) e)
    | dct e => exact .dct (g.1 _ _ (n _ rfl) e)
theorem Odd.same {K : PySem.W.Frag} {a : Addr} {N : Nat} {H H' : Hp} {v : V} (o : Odd K a N H v) (g : Same H H') : Odd K a N H' v := by
  rcases o with ⟨t, xs, rfl, h1, h2⟩ | ⟨h, n⟩
  · exact .inl ⟨t, xs, rfl, Same.sqT g h1, h2⟩
  · refine .inr ⟨?_, n⟩
    cases h with
    | non => exact .non
    | int i => exact .int i
    | lst e => exact .lst (g _ _ e)
    | dct e => exact .dct (g _ _ e)
theorem mono_comp {k : Nat} {xs ys : List Nat} (lx : xs.length = 2 ^ k) (ly : ys.length = 2 ^ k) (by_ : ∀ y ∈ ys, y < 2 ^ k) (h1 : monoB k (tf xs) = true) (h2 : monoB k (tf ys) = true) : monoB k (tf (ys.map (tf xs))) = true := by
  rw [mono_eq] at h1 h2 ⊢
  unfold monoA at h1 h2 ⊢
  rw [List.all_eq_true] at h1 h2 ⊢
  have at1 : ∀ r, r < 2 ^ k → tf (ys.map (tf xs)) r = tf xs (tf ys r) ∧ tf ys r < 2 ^ k := fun r hr => by
    have hl : r < ys.length := by rw [ly]; exact hr
    unfold tf
    rw [List.getD_eq_getElem?_getD, List.getD_eq_getElem?_getD (l := ys), List.getElem?_map, List.getElem?_eq_getElem hl]
    exact ⟨rfl, by_ _ (List.getElem_mem hl)⟩
  intro r hr
  have hr' := List.mem_range.mp hr
  have a1 := h2 r hr
  rw [List.all_eq_true] at a1 ⊢
  intro s hs
  have hs' := List.mem_range.mp hs
  have a2 := a1 s hs
  obtain ⟨e1, l1⟩ := at1 r hr'
  obtain ⟨e2, l2⟩ := at1 s hs'
  have b1 := h1 _ (List.mem_range.mpr l1)
  rw [List.all_eq_true] at b1
  have b2 := b1 _ (List.mem_range.mpr l2)
  rw [e1, e2]
  cases c : inN r s with
  | false => rfl
  | true =>
    rw [c] at a2
    cases c2 : inN (tf ys r) (tf ys s) with
    | false => rw [c2] at a2; cases a2
    | true => rw [c2] at b2; exact b2
/-! tables as data -/
def tbD (xs : List Nat) : PyData := .tuple (xs.map fun n : Nat => PyData.int (n : Int))
theorem dp_tb {K : PySem.W.Frag} {H : Hp} {t : Addr} {xs : List Nat} (h : SqT K H t (tbV xs)) : Dp K H (.ref t) (tbD xs) := .tup h (by
  have h : ∀ l : List Nat, DpAll K H (tbV l) (l.map fun n : Nat => PyData.int (n : Int)) := fun l => by
    induction l with
    | nil => exact .nil
    | cons x r ih => exact .cons (.int _) ih
  exact h xs)
theorem shaped_tb {xs : List Nat} : SeqAt.shaped (tbD xs) = true := by
  have h1 : ∀ l : List Nat, PyData.canLayAll0 (l.map fun n : Nat => PyData.int (n : Int)) = true := fun l => by
    induction l with
    | nil => rfl
    | cons x r ih =>
      show (PyData.canLay0 (.int (x : Int)) && PyData.canLayAll0 (r.map _)) = true
      rw [ih]
      rfl
  have h2 : ∀ l : List Nat, PyData.depthAll (l.map fun n : Nat => PyData.int (n : Int)) ≤ 1 := fun l => by
    induction l with
    | nil => exact Nat.zero_le _
    | cons x r ih =>
      show max 0 (PyData.depthAll (r.map _)) ≤ 1
      omega
  unfold SeqAt.shaped
  rw [show PyData.canLay0 (tbD xs) = true from h1 xs, decide_eq_true (show PyData.depth (tbD xs) ≤ 64 by
    show PyData.depthAll (xs.map fun n : Nat => PyData.int (n : Int)) + 1 ≤ 64
    have := h2 xs
    omega)]
  rfl
theorem eqv_tb (xs : List Nat) : PyData.eqv (tbD xs) (tbD xs) = true := SeqAt.eqv_refl _ (SeqAt.canLay_of_shaped shaped_tb)
end SQ
namespace SQ
open PySem PySem.Spec PyProof.Rows L2
theorem tf_map {f : Nat → Nat} {ys : List Nat} {z : Nat} (h : z < ys.length) : tf (ys.map f) z = f (tf ys z) := by
  unfold tf
  rw [List.getD_eq_getElem?_getD, List.getD_eq_getElem?_getD (l := ys), List.getElem?_map, List.getElem?_eq_getElem h]
  rfl
theorem comp_list {f : Nat → Nat} {ys zs : List Nat} (h : ∀ z ∈ zs, z < ys.length) : zs.map (tf (ys.map f)) = (zs.map (tf ys)).map f := by
  rw [List.map_map]
  exact List.map_congr_left fun z hz => tf_map (h z hz)
theorem atm_app {xs ys : List V} (h1 : ∀ x ∈ xs, Atm x) (h2 : ∀ x ∈ ys, Atm x) : ∀ x ∈ xs ++ ys, Atm x := fun x h => (List.mem_append.mp h).elim (h1 x) (h2 x)
end SQ
namespace SQ
open PySem PySem.Spec PyProof.Rows L2
theorem odd_ask {C sp a : Addr} {K : PySem.W.Frag} {H : Hp} {m N : Nat} {b : Bool} {v : V} {Q : VK} {E : XK} (hN : N = 2 ^ (m * en m b)) (o : Odd K a N H v) (s : SpAt C H sp m b) (q : ∀ H', Same H H' → Q (.bl false) H') : spIsTbl C K [.ref sp, v] H Q E := by
  refine ⟨sp, m, b, v, rfl, s, ?_⟩
  rcases o with ⟨t, xs, rfl, h1, h2, h3, h4⟩ | ⟨h, _⟩
  · refine .inl ⟨t, xs, rfl, h1, h2, h3, fun H' s' => ?_⟩
    rw [← hN, h4]
    exact q H' s'
  · exact .inr ⟨h, q H Same.rfl⟩
end SQ

set_option Elab.async false
set_option linter.all false
set_option maxRecDepth 100000
set_option maxHeartbeats 4000000
/-! enumerate(a tuple) -/
namespace SQ
open PySem PySem.Spec PyProof.Rows L2
open AutoSeq1 (wpAny_loadPart')
theorem meets_enum_newT (t : Addr) (its : Array Value) (n : Nat) (dd : Option Addr) (sl : Array (Option Value)) :
    Meets (Builtin.«enumerate.__new__» ⟨[.type "enumerate", .ref t], []⟩) (fun _ R s => s.heap.get? t = some { cls := .type "tuple", dict := dd, data := .seq its n, slots := sl } ∧
      R (.ok (.ret (.ref (s.heap.push { cls := .type "tuple_iterator", data := .fields #[.ref t, .int 0 0] }).objs.size)))
        { s with heap := (s.heap.push { cls := .type "tuple_iterator", data := .fields #[.ref t, .int 0 0] }).push { cls := .type "enumerate", data := .fields #[.none, .bool false, .ref s.heap.objs.size, rawInt 0, .none, .none] } }) :=
  .of_wp fun prog w A R s h => by
    obtain ⟨hp, g, d, tk, os⟩ := s
    obtain ⟨ht, h⟩ := h
    have hsub := sub_enumerate
    have hT : Heap.IsTuple (Shared.heap ⟨hp, g, d, tk, os⟩) t its := ⟨_, ht, rfl, n, rfl⟩
    wp_walk using wpAny_loadPart' ht
    refine wpAny_stack_any fun st => wpAny_pure ?_
    split
    · rename_i c _ _ _ _ _
      cases (c == Value.type "enumerate")
      · wp_walk using wpAny_loadPart' ht, wpAny_pyIter_tuple hT
        exact ⟨_, rfl, h⟩
      · wp_walk using wpAny_loadPart' ht, wpAny_pyIter_tuple hT
        exact ⟨_, rfl, h⟩
    · wp_walk using wpAny_loadPart' ht, wpAny_pyIter_tuple hT
      exact ⟨_, rfl, h⟩
section
variable {prog : Program} {w : World} {A : Around} {E : Value → Shared → Prop} {s : Shared}
theorem call_enumT {t : Addr} {its : Array Value} {Q : Value → Shared → Prop} (hT : s.heap.IsTuple t its)
    (h : ∀ h', IsEnum h' (s.heap.objs.size + 1) s.heap.objs.size 0 .none → h'.IsTupleIter s.heap.objs.size t 0 → h'.objs.size = s.heap.objs.size + 2 →
      (∀ b o, s.heap.get? b = some o → h'.get? b = some o) → Q (.ref (s.heap.objs.size + 1)) { s with heap := h' }) :
    wpAny (model prog w) A (call (.type "enumerate") [.ref t]) Q E s := by
  obtain ⟨⟨c, dd, dt, sl⟩, ht, hc, n, hd⟩ := hT
  replace hc : c = .type "tuple" := hc
  replace hd : dt = .seq its n := hd
  subst hc hd
  refine callType_new F.called_enumerate (by decide) (F.typeCall_enumerate_1 _) (F.newCall_enumerate_1 _) (fun obj => F.args_object_init_2 obj _) F.entry_enumerate_new (meets_enum_newT t its n dd sl) ⟨ht, ?_⟩
  have hz : (s.heap.push { cls := .type "tuple_iterator", data := .fields #[.ref t, .int 0 0] }).objs.size = s.heap.objs.size + 1 := Heap.size_push ..
  show _ ∧ _
  rw [hz]
  have he : IsEnum ((s.heap.push { cls := .type "tuple_iterator", data := .fields #[.ref t, .int 0 0] }).push { cls := .type "enumerate", data := .fields #[.none, .bool false, .ref s.heap.objs.size, rawInt 0, .none, .none] }) (s.heap.objs.size + 1) s.heap.objs.size 0 .none := by
    have q := Heap.get?_push_size (s.heap.push { cls := .type "tuple_iterator", data := .fields #[.ref t, .int 0 0] }) (o := { cls := .type "enumerate", data := .fields #[.none, .bool false, .ref s.heap.objs.size, rawInt 0, .none, .none] }) rfl
    rw [hz] at q
    exact q
  exact ⟨⟨_, he, rfl⟩, h _ he ⟨_, Heap.get?_push_of_some _ (Heap.get?_push_size _ rfl), rfl, rfl⟩ (by rw [Heap.size_push, hz]) fun b o x => Heap.get?_push_of_some _ (Heap.get?_push_of_some _ x)⟩
end
/-- the tuple at a, each item in a new pair -/
def IteT (K : PySem.W.Frag) (a : Addr) : It :=
  ⟨fun i H => ∃ (xs : List V) (x : V), SqT K H a xs ∧ xs[i]? = some x, fun i H v H' => ∃ T x, v = .ref T ∧ H T = none ∧ H' = upd H T (.tup [.int (i : Nat), x]) ∧ ∀ xs, SqT K H a xs → xs[i]? = some x, fun i H => ∃ xs : List V, SqT K H a xs ∧ xs.length = i⟩
theorem turn_enumT {P : Program} {w : World} {K : PySem.W.Frag} {elts : List Expr} {kk : Nat} {tpos : Pos} (a e it : Addr) :
    Turn P w K (.Tuple elts kk tpos) (IteT K a) [e, it] e (fun i h => (∃ old, IsEnum h e it ((i : Nat) : Int) old) ∧ h.IsTupleIter it a i ∧ e ≠ it ∧ a ≠ it ∧ a ≠ e) where
  mem := by simp
  obj := fun i h st b hb => by
    obtain ⟨⟨old, he⟩, ⟨o, ho, hc, hd⟩, _⟩ := st
    have e' : b = e ∨ b = it := by simpa using hb
    rcases e' with z | z
    · rw [z]; exact ⟨_, he, fun v q => nomatch q⟩
    · rw [z]; exact ⟨o, ho, fun v q => by rw [hd] at q; cases q⟩
  keep := fun i h h' st k => let ⟨⟨old, he⟩, hi, hne⟩ := st; ⟨⟨old, k e (by simp) _ he⟩, hi.at fun o q => k it (by simp) o q, hne⟩
  item := by
    intro X hP hw hK hc i pins s σ H E I hf st hg
    subst hP hw hK
    obtain ⟨⟨old, he⟩, hit, hne, ha1, ha2⟩ := st
    obtain ⟨xs, x, hq, hx⟩ := hg
    obtain ⟨its, rv, p, hz⟩ := I.tuple hq
    obtain ⟨u, hu, ru⟩ := rv.get hx
    have hel : e < s.heap.objs.size := Heap.lt_size he
    have hil : it < s.heap.objs.size := by obtain ⟨_, q, _⟩ := hit; exact Heap.lt_size q
    have li : i < its.toArray.size := by
      have := (List.getElem?_eq_some_iff.mp hu).1
      simpa using this
    refine wpAny_pyNext_enum_itemD (Draws.tuple (prog := X.prog) (w := X.w) (A := X.A.in1) (I.ok.hd hc) it a ha1 its.toArray) he ⟨hit, p⟩ li hne (by simp [ha2.symm, hne]) fun v h' tk hv ho hst hT hsz hk => ?_
    obtain ⟨hit', -⟩ := hst
    have ev : v = u := by
      have hu' : its.toArray[i]? = some u := by simpa using hu
      rw [hu'] at hv
      exact (Option.some.inj hv).symm
    subst ev
    refine ⟨_, rfl, wpAny_letOwnedTupleGo_enum (s := { s with heap := h', toks := tk + 1 }) ho fun h'' he' sb => ?_⟩
    have hT2 : h''.get? s.heap.objs.size = some { cls := .type "tuple", data := .seq #[.int i tk, v] } := (sb.2 _ (Nat.ne_of_gt hel)).trans hT
    have new : ObjOk X.prog X.w (upd H s.heap.objs.size (.tup [.int (i : Nat), x])) h'' s.heap.objs.size (.tup [.int (i : Nat), x]) := ⟨by show 2 ≤ sizeLine; decide, [.int i tk, v], .cons ⟨_, rfl⟩ (.cons ru .nil), ⟨_, hT2, rfl, _, rfl⟩⟩
    have I1 : Inv X pins σ (upd H s.heap.objs.size (.tup [.int (i : Nat), x])) { s with heap := h'', toks := tk + 1 } :=
      I.turnedNew (ch := [e, it]) (fun b ob hb q => (sb.2 b (fun z => hb (by simp [z]))).trans (hk b ob (fun z => hb (by simp [z])) (fun z => hb (by simp [z])) q)) hf (Nat.le_refl _) new
    refine ⟨.ref s.heap.objs.size, _, I1, rfl, ⟨_, x, rfl, I.hok.fresh (Nat.le_refl _), rfl, fun ys hy => by rw [I.tuple_inj hy hq]; exact hx⟩, ⟨⟨v, ?_⟩, hit'.at fun o q => (sb.2 it (Ne.symm hne)).trans q, hne, ha1, ha2⟩, fun b hb => ?_⟩
    · rw [show ((i + 1 : Nat) : Int) = (i : Int) + 1 by omega]
      exact he'
    · have hb' : b < s.heap.objs.size := by
        have e' : b = e ∨ b = it := by simpa using hb
        rcases e' with z | z
        · rw [z]; exact hel
        · rw [z]; exact hil
      rw [upd_ne (Nat.ne_of_lt hb')]
      exact (hf b hb).1
  done := by
    intro X hP hw hK hc i pins s σ H E I hf st hg
    subst hP hw hK
    obtain ⟨⟨old, he⟩, hit, hne, ha1, ha2⟩ := st
    obtain ⟨xs, hq, hx⟩ := hg
    obtain ⟨its, rv, p, hz⟩ := I.tuple hq
    obtain ⟨f0, f1, f2, f3, f4, f5⟩ := hf it (by simp)
    have hl := rv.length
    have hn : i = its.toArray.size := by simp; omega
    exact wpAny_pyNext_enum_endD (Draws.tuple (prog := X.prog) (w := X.w) (A := X.A.in1) (I.ok.hd hc) it a ha1 its.toArray) he (by rw [← hn]; exact ⟨hit, p⟩) fun h' eb => ⟨rfl, I.turned (t' := s.toks) (fun b o hb q => eb b o hb q) f0 f1 f3 f4 f5⟩
  self := fun A i s Q E st h => let ⟨⟨_, he⟩, _⟩ := st; wpAny_pyIter_enum he h
def iEnumT (K : PySem.W.Frag) (ta : TA) : TI := fun σ H R => ta σ H fun vs H1 => ∃ a xs, vs = [.ref a] ∧ SqT K H1 a xs ∧ R (IteT K a) H1
theorem pi_enumT {X : Cx} {e : Expr} {ta : TA} {p pos tpos : Pos} {elts : List Expr} {kk : Nat} (hg : Gl X "enumerate") (hm : X.mg "enumerate" = none) (ha : PA X [e] ta) (hs : starEach [e] X.env = [(false, eval e X.env)] := by rfl) :
    PI X (.Tuple elts kk tpos) (.Call (.Name "enumerate" p) [e] [] pos) (iEnumT X.K ta) := by
  refine ⟨fun pins s σ H R I h => ?_⟩
  refine Call_ (ld_blt I hg hm boot_enumerate (PyProof.Rows.callWith_type1 (thn (ha.run pos pins s σ H _ I h) fun us s1 ⟨vs, H1, I1, r1, q1⟩ => ?_) hs rfl))
  obtain ⟨a, xs, ex, hq, q⟩ := q1
  subst ex
  cases r1 with
  | cons r rr =>
    cases rr
    cases r
    obtain ⟨its, rv, p', hz⟩ := I1.tuple hq
    have al : a < s1.heap.objs.size := by
      obtain ⟨o, ho, _⟩ := p'
      exact Heap.lt_size ho
    refine call_enumT p' fun h' he hit hsz hk => wpAny_pyIter_enum he ?_
    have I2 : Inv X pins σ H1 { s1 with heap := h' } := I1.kept (t' := s1.toks) hk
    refine ⟨s1.heap.objs.size + 1, [s1.heap.objs.size + 1, s1.heap.objs.size], _, _, H1, rfl, I2, turn_enumT a (s1.heap.objs.size + 1) s1.heap.objs.size, ⟨⟨.none, he⟩, hit, Nat.succ_ne_self _, Nat.ne_of_lt al, Nat.ne_of_lt (Nat.lt_succ_of_lt al)⟩, fun b hb => ?_, q⟩
    have e' : b = s1.heap.objs.size + 1 ∨ b = s1.heap.objs.size := by simpa using hb
    have hle : s1.heap.objs.size ≤ b := by
      rcases e' with z | z
      · rw [z]; exact Nat.le_add_right _ _
      · rw [z]; exact Nat.le_refl _
    exact I1.fpOk hle (I1.hok.fresh hle)
/-- for i, x in enumerate(a tuple): by what a turn does -/
theorem for_enumT {K : PySem.W.Frag} {a : Addr} {xs : List V} {g : TG} {tb : TS} {D : Ends} {σ : L2.St} {H : Hp} (Pv : Nat → L2.St → Hp → Prop) (h0 : Pv 0 σ H) (hl : ∀ i σ H, i ≤ xs.length → Pv i σ H → SqT K H a xs)
    (hs : ∀ (i : Nat) (x : V) σ H, xs[i]? = some x → Pv i σ H → ∀ T, H T = none → g (.ref T) σ (upd H T (.tup [.int (i : Int), x])) fun σ2 H2 => tb { D with nx := Pv (i + 1), ct := Pv (i + 1), bk := D.nx } σ2 H2) (hd : ∀ σ H, Pv xs.length σ H → D.nx σ H) :
    ∃ W : Nat → Nat → L2.St → Hp → Prop, (∃ m, W 0 m σ H) ∧ ∀ i m σ H, W i m σ H →
      ((IteT K a).stop i H ∧ D.nx σ H) ∨ ((IteT K a).go i H ∧ ∃ N : L2.St → Hp → Prop, (∀ σ' H', N σ' H' → ∃ m', m' < m ∧ W (i + 1) m' σ' H') ∧ ∀ x H', (IteT K a).yld i H x H' → g x σ H' fun σ2 H2 => tb { D with nx := N, ct := N, bk := D.nx } σ2 H2) := by
  refine ⟨fun i m σ H => i ≤ xs.length ∧ m = xs.length - i ∧ Pv i σ H, ⟨_, Nat.zero_le _, rfl, h0⟩, fun i m σ H ⟨hi, hm, p⟩ => ?_⟩
  have sq := hl i σ H hi p
  by_cases l : i < xs.length
  · refine .inr ⟨⟨xs, xs[i], sq, List.getElem?_eq_getElem l⟩, Pv (i + 1), fun σ' H' h => ⟨xs.length - (i + 1), by omega, l, rfl, h⟩, fun x H' y => ?_⟩
    obtain ⟨T, z, rfl, nT, rfl, hx⟩ := y
    exact hs i z σ H (hx xs sq) p T nT
  · have e : i = xs.length := by omega
    subst e
    exact .inl ⟨⟨xs, sq, rfl⟩, hd σ H p⟩
end SQ
namespace SQ
open PySem PySem.Spec PyProof.Rows L2
theorem call_isiK {X : Cx} {K : PySem.W.Frag} (h : X.K = K) : CallR X (.builtin "isinstance") (rIsi K) := by
  subst h
  exact call_isi
def spBelow (K : PySem.W.Frag) : Sp := fun vs H Q _ => ∃ (t : Addr) (xs : List V) (n : Nat), vs = [.ref t, .int (n : Int)] ∧ SqT K H t xs ∧ (∀ x ∈ xs, Atm x) ∧ xs.length ≤ 5000 ∧ ∀ H', Same H H' → Q (.bl (xs.all (inB 0 ((n : Int) - 1)))) H'
def spGrow (K : PySem.W.Frag) : Sp := fun vs H Q _ => ∃ (t : Addr) (k : Nat) (xs : List Nat), vs = [.ref t, .int (k : Int)] ∧ Tb K H t k xs ∧ k ≤ 12 ∧ ∀ H', Same H H' → Q (.bl (monoB k (tf xs))) H'
end SQ

set_option Elab.async false
set_option linter.all false
namespace SQ
open PySem PySem.Spec PyProof.Rows L2
def topS (i : Nat) : Stmt := PySem.Challenge.pw_blockshanded_k23_errors_of_spaces.main.body.getD i (.Pass ⟨0, 0, 0, 0⟩)
abbrev s_wall : Stmt := topS 0
abbrev sis_integer_in : Stmt := topS 2
abbrev sare_integers_below : Stmt := topS 3
abbrev sHandError : Stmt := topS 6
abbrev sInvalidMeaning : Stmt := topS 7
abbrev sInvalidOperation : Stmt := topS 8
abbrev sInvalidNumber : Stmt := topS 9
abbrev sInvalidNumber__init__ : Stmt := inClass sInvalidNumber 0
abbrev srow_of : Stmt := topS 11
abbrev spairs_of : Stmt := topS 12
abbrev ssame_of : Stmt := topS 13
abbrev sfollowed_by : Stmt := topS 14
abbrev sis_growing : Stmt := topS 15
abbrev sSpace : Stmt := topS 17
abbrev sSpace__init__ : Stmt := inClass sSpace 0
abbrev sSpacemodes : Stmt := inClass sSpace 1
abbrev sSpacewatched : Stmt := inClass sSpace 2
abbrev sSpaceends : Stmt := inClass sSpace 3
abbrev sSpacesize : Stmt := inClass sSpace 4
abbrev sSpacesame : Stmt := inClass sSpace 5
abbrev sSpacepairs : Stmt := inClass sSpace 6
abbrev sSpacerelation : Stmt := inClass sSpace 7
abbrev sSpacefollowed : Stmt := inClass sSpace 8
abbrev sSpaceeither : Stmt := inClass sSpace 9
abbrev sSpaceis_within : Stmt := inClass sSpace 10
abbrev sSpaceis_table : Stmt := inClass sSpace 11
abbrev sSpaceis_monotone : Stmt := inClass sSpace 12
abbrev sSpacecomposed : Stmt := inClass sSpace 13
abbrev sSpace_is_relation : Stmt := inClass sSpace 14
abbrev sSpace_is_pair : Stmt := inClass sSpace 15
abbrev sSpace_check_relation : Stmt := inClass sSpace 16
abbrev sSpace_check_table : Stmt := inClass sSpace 17
abbrev sSpace__eq__ : Stmt := inClass sSpace 18
abbrev sSpace__str__ : Stmt := inClass sSpace 19
abbrev s_law_urn : Stmt := topS 19
abbrev s_law_take : Stmt := topS 20
abbrev s_law_one : Stmt := topS 21
abbrev s_law_some : Stmt := topS 22
abbrev s_law_pairs : Stmt := topS 23
abbrev s_law_bits : Stmt := topS 24
abbrev s_law_then : Stmt := topS 25
abbrev s_law_within : Stmt := topS 26
abbrev s_law_sizes : Stmt := topS 27
abbrev s_law_met : Stmt := topS 28
abbrev s_law_right : Stmt := topS 29
abbrev slaw : Stmt := topS 30
end SQ

set_option Elab.async false
set_option linter.all false
set_option maxRecDepth 100000
set_option maxHeartbeats 4000000
/-! defs that may show containers: nothing is being shown above them -/
namespace FS
open PySem PySem.Spec PyProof.Rows L2
/-- as FnOk, where no container is being shown -/
structure FnG (P : Program) (w : World) (K : PySem.W.Frag) (mg : Str → Option Value) (base : Heap) (CX : CXT) (k : Nat) (f : Addr) (fd : FuncData) (ps : List Str) (sp : Sp) : Prop where
  len : ∀ vs H Q E, sp vs H Q E → vs.length = ps.length
  go : ∀ {A : Around} {outer : List Env} {s : Shared} {H : Hp} {args : Args} {us : List Value} {vs : List V} {Q : VK} {E : XK}, A.guards = some [] → Room k A → Env0 P w K mg base A outer s H → BindsTo s fd args (ps.zip us) → Vals vs us → sp vs H Q E →
    codeAny (model P w) A (.call (.ref f) args) (CR CX outer P w H s Q E) s
section
variable {P : Program} {w : World} {K : PySem.W.Frag} {mg : Str → Option Value} {base : Heap}
theorem FnG.mono {CX : CXT} {j k : Nat} {f : Addr} {fd : FuncData} {ps : List Str} {sp : Sp} (F : FnG P w K mg base CX j f fd ps sp) (h : j ≤ k) : FnG P w K mg base CX k f fd ps sp :=
  ⟨F.len, fun g r => F.go g (r.mono h)⟩
theorem _root_.L2.FnOk.toG {CX : CXT} {k : Nat} {f : Addr} {fd : FuncData} {ps : List Str} {sp : Sp} (F : FnOk P w K mg base CX k f fd ps sp) : FnG P w K mg base CX k f fd ps sp :=
  ⟨F.len, fun _ r e b v p => F.run _ _ _ _ _ _ _ _ _ r e b v p⟩
theorem _root_.L2.Fun.okG {x qual : Str} {st : Stmt} {f : Addr} {fd : FuncData} {N ps : List Str} {k : Nat} {sp : Sp} (F : Fun K x qual st f fd) (S : FnScope N ps (defScope st)) (len : ∀ vs H Q E, sp vs H Q E → vs.length = ps.length)
    (body : ∀ (cdv : Value) (A : Around) (outer : List Env) (s : Shared) (H : Hp) (vs : List V) (Q : VK) (E : XK), A.guards = some [] → Room k (A.deeper (envOfC qual (defScope st) s.heap.objs.size f cdv)) → sp vs H Q E →
      ∃ t, PSs (cxOf CX0 P w K mg base N qual (defScope st) f cdv A outer s H E).nox (defBody st) t ∧ t { nx := fun _ H' => Q .non H', rt := Q } (start N vs) H) : FnG P w K mg base CX0 (k + 1) f fd ps sp := by
  obtain ⟨oc, od, kV, doc, pm, an, cdv, ct, osl, rfl, lk, hcd⟩ := F.ex
  refine ⟨len, fun {A outer s H args us vs Q E} g hr e0 hb r p => ?_⟩
  refine LamX.run_ofS lk hcd S hr e0 hb r (len _ _ _ _ p) fun hr' => ?_
  obtain ⟨t, h, q⟩ := body cdv A outer s H vs Q E g hr' p
  exact ⟨t, h.nox, q⟩
theorem _root_.L2.Fun.okGX {x qual : Str} {st : Stmt} {f : Addr} {fd : FuncData} {N ps : List Str} {k : Nat} {sp : Sp} (F : Fun K x qual st f fd) (S : FnScope N ps (defScope st)) (len : ∀ vs H Q E, sp vs H Q E → vs.length = ps.length)
    (body : ∀ (cdv : Value) (A : Around) (outer : List Env) (s : Shared) (H : Hp) (vs : List V) (Q : VK) (E : XK), A.guards = some [] → Room k (A.deeper (envOfC qual (defScope st) s.heap.objs.size f cdv)) → sp vs H Q E →
      ∃ t, PSs (cxOf (L2.CX P w) P w K mg base N qual (defScope st) f cdv A outer s H E) (defBody st) t ∧ t { nx := fun _ H' => Q .non H', rt := Q } (start N vs) H) : FnG P w K mg base (L2.CX P w) (k + 1) f fd ps sp := by
  obtain ⟨oc, od, kV, doc, pm, an, cdv, ct, osl, rfl, lk, hcd⟩ := F.ex
  exact ⟨len, fun {A outer s H args us vs Q E} g hr e0 hb r p => LamX.run_ofS lk hcd S hr e0 hb r (len _ _ _ _ p) fun hr' => body cdv A outer s H vs Q E g hr' p⟩
/-- what a caller needs -/
structure CalG (P : Program) (w : World) (K : PySem.W.Frag) (mg : Str → Option Value) (base : Heap) (k : Nat) (x : Str) (ps : List Str) (sp : Sp) : Prop where
  ex : ∃ (f : Addr) (fd : FuncData), FnG P w K mg base CX0 k f fd ps sp ∧ mg x = some (.ref f) ∧ PySem.W.keepIn K (.ref f) = true ∧ Binds K fd ps []
end
section
variable {X : Cx} {e : Expr} {es : List Expr} {t : TA} {x : Str} {p pos : Pos}
theorem pe_ownG {k : Nat} {ps : List Str} {sp : Sp} (C : CalG X.prog X.w X.K X.mg X.base k x ps sp) (gd : X.A.guards = some []) (hr : Room (k + 1) X.A) (hg : Gl X x) (ha : PA X (e :: es) t) (hdb : (x == ("__debug__" : Str)) = false := by decide)
    (he : starEach (e :: es) X.env = (false, eval e X.env) :: starEach es X.env := by rfl) (hpl : (backTo pos (starEach es X.env)).any (·.1) = false := by rfl) : PE X (.Call (.Name x p) (e :: es) [] pos) (tCall sp [] E0 t) := by
  obtain ⟨f, fd, F, m, kp, b⟩ := C.ex
  refine ⟨fun pins s σ H Q I h => wpAny_Call_Name_kw (ld_glob I hg m ?_ hdb)⟩
  refine PySem.W.callWith_K (h₀ := X.base) I.ok.mod.kin kp (thn (ha.run pos pins s σ H _ I h) fun us s1 ⟨vs, H1, I1, r, q⟩ => ⟨I1.kIn, ?_⟩) he hpl
  have r2 : Vals (vs ++ []) (us ++ []) := r.append .nil
  have hl : (us ++ []).length = ps.length := by
    rw [← r2.length]
    exact F.len _ _ _ _ q
  have run := F.go gd (hr.mono (Nat.le_succ k)) I1.env0 (b s1 us I1.kIn hl) r2 q
  refine wpAny_call (codeAny_mono run fun res s' told => ?_)
  cases res with
  | error ex => exact told.elim
  | ok fl =>
    cases fl with
    | ret u => exact I1.after told
    | next => exact told.elim
    | brk => exact told.elim
    | cont => exact told.elim
end
/-! ### repr of data -/
mutual
/-- data, empty dicts among it -/
inductive Dq (K : PySem.W.Frag) (H : Hp) : V → PyData → Prop
  | non : Dq K H .non .none
  | bl (b : Bool) : Dq K H (.bl b) (.bool b)
  | int (i : Int) : Dq K H (.int i) (.int i)
  | str (x : Str) : Dq K H (.str x) (.str x)
  | lst {a : Addr} {xs : List V} {ds : List PyData} : H a = some (.lst xs) → DqAll K H xs ds → Dq K H (.ref a) (.list ds)
  | tup {a : Addr} {xs : List V} {ds : List PyData} : SqT K H a xs → DqAll K H xs ds → Dq K H (.ref a) (.tuple ds)
  | dct {a : Addr} : H a = some (.dK []) → Dq K H (.ref a) (.dict [])
inductive DqAll (K : PySem.W.Frag) (H : Hp) : List V → List PyData → Prop
  | nil : DqAll K H [] []
  | cons {v : V} {vs : List V} {d : PyData} {ds : List PyData} : Dq K H v d → DqAll K H vs ds → DqAll K H (v :: vs) (d :: ds)
end
section
variable {X : Cx} {pins : List (Addr × Obj)} {σ : L2.St} {H : Hp} {s : Shared}
theorem no_sys (I : Inv X pins σ H s) (hs : ∃ mm, X.base.Ns sysModules mm) {a : Addr} {o : HO} (e : H a = some o) : a ≠ sysModules := fun z => by
  obtain ⟨mm, ob, es, ep, at_, _⟩ := hs
  have n := (I.bs _ _ at_).2
  rw [← z, e] at n
  cases n
mutual
theorem Dq.reads (I : Inv X pins σ H s) (hs : ∃ mm, X.base.Ns sysModules mm) : ∀ (d : PyData) {v : V} {u : Value}, Dq X.K H v d → RelV v u → ∃ as, Reads s.heap u d as ∧ sysModules ∉ as
  | .none, _, _, h, r => by
    cases h
    obtain rfl := (show _ = Value.none from r)
    exact ⟨[], Reads.none, fun z => nomatch z⟩
  | .bool b, _, _, h, r => by
    cases h
    obtain rfl := (show _ = Value.bool b from r)
    exact ⟨[], Reads.bool b, fun z => nomatch z⟩
  | .int i, _, _, h, r => by
    cases h
    obtain ⟨t, rfl⟩ := r
    exact ⟨[], Reads.int i t, fun z => nomatch z⟩
  | .str x, _, _, h, r => by
    cases h
    obtain ⟨t, rfl⟩ := r
    exact ⟨[], Reads.str x t, fun z => nomatch z⟩
  | .list ds, _, u, h, r => by
    cases h with
    | @lst a xs _ e q =>
      obtain rfl : u = Value.ref a := r
      obtain ⟨its, n, rv, at_, _⟩ := I.lst e
      obtain ⟨as, rd, no⟩ := Dq.readsAll I hs ds q rv
      refine ⟨a :: as, Reads.list at_ rfl rfl rd, fun z => ?_⟩
      rcases List.mem_cons.mp z with z | z
      · exact no_sys I hs e z.symm
      · exact no z
  | .tuple ds, _, u, h, r => by
    cases h with
    | @tup a xs _ e q =>
      obtain rfl : u = Value.ref a := r
      obtain ⟨its, rv, ⟨o, at_, kind, n, data⟩, _⟩ := I.tuple e
      obtain ⟨as, rd, no⟩ := Dq.readsAll I hs ds q rv
      exact ⟨as, Reads.tuple at_ kind data rd, no⟩
  | .dict kvs, _, u, h, r => by
    cases h with
    | @dct a e =>
      obtain rfl : u = Value.ref a := r
      obtain ⟨_, _, vs, kv, o, es, ep, e1, e2, e3, e4, e5, e6⟩ := I.hok a _ e
      cases kv
      have en : es.toList = [] := by
        cases q : es.toList with
        | nil => rfl
        | cons x l =>
          rw [q] at e5
          cases e5
      refine ⟨a :: [] ++ [], Reads.dict (kvs := []) (as := []) (bs := []) e1 e2.1 e3 ?_ ?_, ?_⟩
      · rw [en]
        exact .nil
      · rw [en]
        exact .nil
      · intro z
        rcases List.mem_cons.mp z with z | z
        · exact no_sys I hs e z.symm
        · exact absurd z (by simp)
theorem Dq.readsAll (I : Inv X pins σ H s) (hs : ∃ mm, X.base.Ns sysModules mm) : ∀ (ds : List PyData) {vs : List V} {us : List Value}, DqAll X.K H vs ds → Vals vs us → ∃ as, ReadsAll s.heap us ds as ∧ sysModules ∉ as
  | [], _, _, h, r => by
    cases h
    cases r
    exact ⟨[], .nil, fun z => nomatch z⟩
  | d :: ds, _, _, h, r => by
    cases h with
    | cons h1 h2 =>
      cases r with
      | cons r1 r2 =>
        obtain ⟨as, q1, n1⟩ := Dq.reads I hs d h1 r1
        obtain ⟨bs, q2, n2⟩ := Dq.readsAll I hs ds h2 r2
        exact ⟨as ++ bs, .cons q1 q2, fun z => (List.mem_append.mp z).elim n1 n2⟩
end
end
theorem call_reprD {X : Cx} {k : Nat} (gd : X.A.guards = some []) (hs : ∃ mm, X.base.Ns sysModules mm) (hr : Room k X.A) : CallR X (.builtin "repr") (fun xs H Q => ∃ v d, xs = [v] ∧ Dq X.K H v d ∧ d.showable = true ∧ d.shown.length ≤ sizeLine ∧ d.depth ≤ 60 ∧ Q (.str d.shown) H) := by
  intro pins s σ H xs us Q I r h
  obtain ⟨v, d, rfl, hd, sh, sz, dp, q⟩ := h
  obtain ⟨u, rfl, t⟩ := vals1 r
  have hu : X.A.units + (d.depth + 1) < cLine := by
    have := hr.un
    omega
  obtain ⟨as, rd, no⟩ := Dq.reads I hs d hd t
  have ns : d.hasDict = true → sysModules ∉ as := fun _ => no
  cases rd with
  | none => exact PySem.P.repr_of_none ⟨.str _, H, I.tok _, ⟨_, rfl⟩, q⟩
  | bool b => exact PySem.P.repr_of_bool ⟨.str _, H, I.tok _, ⟨_, rfl⟩, q⟩
  | int i tk => exact PySem.P.repr_of_int (by simpa [PyData.showable] using sh) ⟨.str _, H, I.tok _, ⟨_, rfl⟩, q⟩
  | str x tk => exact PySem.P.repr_of_str ⟨.str _, H, I.tok _, ⟨_, rfl⟩, q⟩ sz
  | list h1 h2 h3 h4 => exact repr_of_reads' (.list h1 h2 h3 h4) sh ns gd hu (fun _ _ e => e) (fun h' u tk kp => ⟨.str _, H, I.kept kp, ⟨_, rfl⟩, q⟩) sz
  | tuple h1 h2 h3 h4 => exact repr_of_reads' (.tuple h1 h2 h3 h4) sh ns gd hu (fun _ _ e => e) (fun h' u tk kp => ⟨.str _, H, I.kept kp, ⟨_, rfl⟩, q⟩) sz
  | dict h1 h2 h3 h4 h5 => exact repr_of_reads' (.dict h1 h2 h3 h4 h5) sh ns gd hu (fun _ _ e => e) (fun h' u tk kp => ⟨.str _, H, I.kept kp, ⟨_, rfl⟩, q⟩) sz
end FS

set_option Elab.async false
set_option linter.all false
set_option maxRecDepth 100000
set_option maxHeartbeats 4000000
/-! the end of a law whose defs may show containers -/
namespace FS
open PySem PySem.Spec PyProof.Rows L2 LamX
/-- the module as the law is called -/
structure TopS (K : PySem.W.Frag) (mg : Str → Option Value) (tabs : List (Addr × Addr)) (scr : Addr) (us : List Value) (t : Shared) : Prop where
  kin : K.In t.heap
  globals : t.heap.Ns mainGlobals mg
  built : ∃ mb, t.heap.Ns builtinsNs mb ∧ ∀ x : Str, x ≠ "__name__" → mb x = bootBuiltins x
  free : t.heap.NoLimit
  still : t.gens = #[]
  empty : ∀ c ∈ tabs, t.heap.get? c.2 = some { cls := .none, data := .fields #[] }
  apart : ∀ c ∈ tabs, K.lookup c.2 = none
  codes : ∀ c ∈ tabs, PySem.W.CodeHd t.heap c.1 c.2
  module : ∃ (bm : Addr) (ob : Obj), mg "__builtins__" = some (.ref bm) ∧ bm ≠ builtinsNs ∧ t.heap.get? bm = some ob ∧ ob.cls = .type "module" ∧ ob.dict = some builtinsNs ∧ ob.data = .plain
  script : t.heap.get? scr = some { cls := .type "list", data := .seq us.toArray }
section
variable {P : Program} {w : World} {K : PySem.W.Frag} {mg : Str → Option Value} {tabs : List (Addr × Addr)} {scr : Addr} {us : List Value} {t : Shared} {H : Hp}
/-- only these are tracked -/
def Few (tabs : List (Addr × Addr)) (scr : Addr) (H : Hp) : Prop := ∀ b, H b ≠ none → b = scr ∨ ∃ c ∈ tabs, b = c.2
theorem TopS.away (T : TopS K mg tabs scr us t) (few : Few tabs scr H) {b : Addr} {o : Obj} (at_ : t.heap.get? b = some o) (n1 : ∀ vs n, o.data ≠ .seq vs n) (n2 : o.data ≠ .fields #[]) : H b = none := by
  refine Classical.byContradiction fun tracked => ?_
  rcases few b tracked with rfl | ⟨c, hc, rfl⟩
  · rw [T.script] at at_
    exact n1 _ _ (congrArg Obj.data (Option.some.inj at_)).symm
  · rw [T.empty c hc] at at_
    exact n2 (congrArg Obj.data (Option.some.inj at_)).symm
theorem TopS.ns (T : TopS K mg tabs scr us t) (few : Few tabs scr H) {b : Addr} {m : Str → Option Value} (h : t.heap.Ns b m) : (hidT t.heap H).Ns b m := by
  obtain ⟨o, es, ep, at_, dict, r⟩ := h
  refine ⟨o, es, ep, hidT_get at_ (T.away few at_ (fun vs n z => ?_) fun z => ?_), dict, r⟩
  · rw [dict] at z
    cases z
  · rw [dict] at z
    cases z
theorem TopS.base_in (T : TopS K mg tabs scr us t) (few : Few tabs scr H) (own : H scr ≠ none → K.lookup scr = none) : K.In (hidT t.heap H) := fun b o at_ => by
  refine hidT_get (T.kin b o at_) (Classical.byContradiction fun tracked => ?_)
  rcases few b tracked with rfl | ⟨c, hc, rfl⟩
  · rw [own tracked] at at_
    cases at_
  · rw [T.apart c hc] at at_
    cases at_
theorem TopS.base_tab (T : TopS K mg tabs scr us t) (few : Few tabs scr H) (c : Addr × Addr) (hc : c ∈ tabs) : TabB (hidT t.heap H) mg c.1 c.2 := by
  have empty := T.empty c hc
  refine ⟨?code, ?module, ?glob⟩
  case code =>
    obtain ⟨o, vs, file, tf, flags, tg, inF, text, tt, at_, kind, fields, r4, r5, r⟩ := T.codes c hc
    refine ⟨o, vs, file, tf, flags, tg, inF, text, tt, hidT_get at_ (T.away few at_ (fun xs n z => ?_) fun z => ?_), kind, fields, r4, r5, r⟩
    · rw [fields] at z
      cases z
    · rw [fields] at z
      cases z
      simp at r4
  case module =>
    obtain ⟨bm, ob, inG, notB, at_, kind, dict, plain⟩ := T.module
    refine ⟨bm, ob, inG, notB, fun z => ?_, fun z => ?_, hidT_get at_ (T.away few at_ (fun xs n z => ?_) fun z => ?_), kind, dict, plain⟩
    · obtain ⟨o, es, ep, gAt, gDict, _⟩ := T.globals
      rw [z, gAt] at at_
      rw [Option.some.inj at_, plain] at gDict
      cases gDict
    · rw [z, empty] at at_
      rw [← Option.some.inj at_] at plain
      cases plain
    · rw [plain] at z
      cases z
    · rw [plain] at z
      cases z
  case glob =>
    intro z
    obtain ⟨o, es, ep, gAt, gDict, _⟩ := T.globals
    rw [z, empty] at gAt
    rw [← Option.some.inj gAt] at gDict
    cases gDict
theorem TopS.env (T : TopS K mg tabs scr us t) (few : Few tabs scr H) (own : H scr ≠ none → K.lookup scr = none) (ok : HOk P w H t.heap) : Env0 P w K mg (hidT t.heap H) callerA [] t H where
  frames := rfl
  mod := by
    obtain ⟨mb, b1, b2⟩ := T.built
    obtain ⟨mc, l1, l2⟩ := T.free
    exact ⟨T.base_in few own, T.ns few T.globals, ⟨mb, T.ns few b1, b2⟩, ⟨mc, T.ns few l1, l2⟩⟩
  bs := fun b o at_ => of_hidT at_
  bsz := Nat.le_of_eq (hidT_size _ _)
  funs := trivial
  frf := fun b hb => nomatch hb
  hok := ok
  bare := .of_eq T.still
/-- the law's call, from some abstract heap -/
theorem TopS.run (T : TopS K mg tabs scr us t) (few : Few tabs scr H) (own : H scr ≠ none → K.lookup scr = none) (ok : HOk P w H t.heap) {k : Nat} {fa : Addr} {fd : FuncData} {x : Str} {sp : Sp}
    (F : FnG P w K mg (hidT t.heap H) CX0 k fa fd [x] sp) (room : Room k callerA) (bind : BindsTo t fd ⟨[.ref scr], []⟩ [(x, .ref scr)]) (pr : sp [.ref scr] H (fun v _ => v = .bl true) fun _ _ _ => False)
    (htab : ∀ c ∈ tabs, H c.2 = some (.tbl #[])) (hscr : H scr = none ∨ (∃ c ∈ tabs, scr = c.2) ∨ ∃ o xs, H scr = some (.frz o (.lst xs))) :
    codeAny (model P w) callerA (.call (.ref fa) ⟨[.ref scr], []⟩) (fun r s' => r = .ok (.ret (.bool true)) ∧ OldK t.heap s'.heap ∧ s'.os = t.os ∧ AllBare s'.gens) t := by
  have told := F.go (outer := []) (us := [.ref scr]) (vs := [.ref scr]) rfl room (T.env few own ok) bind (.cons rfl .nil) pr
  refine codeAny_mono told fun r s' h => ?_
  match r, h with
  | .error e, h => exact h.elim
  | .ok .next, h => exact h.elim
  | .ok .brk, h => exact h.elim
  | .ok .cont, h => exact h.elim
  | .ok (.ret u), ⟨v, H', os, bare, un, ok', rel, is⟩ =>
    have is : v = .bl true := is
    subst is
    obtain rfl : u = Value.bool true := rel
    have keeps : ∀ b o, (¬ ∃ c ∈ tabs, b = c.2) → t.heap.get? b = some o → s'.heap.get? b = some o := fun b o nt at_ => by
      cases tr : H b with
      | none => exact un.keep b o at_ tr (fun z => nomatch z) (fun z => nomatch z)
      | some y =>
        rcases few b (by rw [tr]; exact Option.some_ne_none _) with rfl | q
        · rcases hscr with z | z | ⟨ob, xs, z⟩
          · rw [z] at tr
            cases tr
          · exact absurd z nt
          · have before := (ok b _ z).1
            rw [at_] at before
            rw [Option.some.inj before]
            exact (ok' b _ (un.frzs b ob _ z)).1
        · exact absurd q nt
    have grown : ∀ c ∈ tabs, ∃ more : Array Value, s'.heap.get? c.2 = some { cls := .none, data := .fields more } := fun c hc => by
      obtain ⟨more, z⟩ := un.tbls c.2 #[] (htab c hc)
      exact ⟨_, ok' c.2 _ z⟩
    refine ⟨rfl, ⟨fun b o at_ => ?_, fun b o at_ => ?_⟩, os, bare⟩
    · by_cases tb : ∃ c ∈ tabs, b = c.2
      · obtain ⟨c, hc, rfl⟩ := tb
        rw [T.empty c hc] at at_
        obtain ⟨more, hm⟩ := grown c hc
        cases at_
        exact .inr (.inl ⟨((T.codes c hc).tab (T.empty c hc)).isCodeTable, rfl, #[], more, rfl, by rw [Array.empty_append]; exact hm⟩)
      · exact .inl (keeps b o tb at_)
    · by_cases tb : ∃ c ∈ tabs, b = c.2
      · obtain ⟨c, hc, rfl⟩ := tb
        obtain ⟨more, hm⟩ := grown c hc
        exact ⟨_, hm⟩
      · exact ⟨o, keeps b o tb at_⟩
end
end FS

set_option Elab.async false
set_option linter.all false
set_option maxRecDepth 100000
set_option maxHeartbeats 4000000
namespace FS
open PySem PySem.Spec PyProof.Rows L2 LamX
/-- what is to be told of the law at the head's heap -/
structure LawG (l : PySem.W.OpenLaw) (w : World) (K : PySem.W.Frag) (k n : Nat) (x : Str) (mg : Str → Option Value) (fa : Addr) (h : Heap) (fd : FuncData) (tabs : List (Addr × Addr)) (sp : Sp) : Prop where
  empty : ∀ c ∈ tabs, h.get? c.2 = some { cls := .none, data := .fields #[] }
  apart : ∀ c ∈ tabs, K.lookup c.2 = none
  codes : ∀ c ∈ tabs, PySem.W.CodeHd h c.1 c.2
  binds : ∀ (s : Shared) (u : Value), BindsTo s fd ⟨[u], []⟩ [(x, u)]
  wants : ∀ (H : Hp) (a : Addr) (ns : List Int), ns.length ≤ n → (∀ z ∈ ns, Builtin.Int.intBits z ≤ 1048576) → (∀ c ∈ tabs, H c.2 = some (.tbl #[])) → SqL K H a (ns.map V.int) → sp [.ref a] H (fun v _ => v = .bl true) fun _ _ _ => False
  keeps : ∀ base : Heap, K.In base → base.Ns mainGlobals mg → (∀ c ∈ tabs, TabB base mg c.1 c.2) → (∃ mm, base.Ns sysModules mm) → FnG l.prog w K mg base CX0 k fa fd [x] sp
theorem walk_G {l : PySem.W.OpenLaw} {n k : Nat} {q : Program} {loose : List Str} {XP : (Str → Option Value) → Heap → Prop} {YP : World → Heap → Prop} {d : DefRec} {K : Params → PySem.W.Frag} {x : Str}
    (most : l.most = some n) (small : n ≤ sizeLine) (noDef : d.params.defaults = []) (room : Room k callerA) (plain : importsNone q = true) (isIn : ∀ (w : World) (h : Heap), YP w h → (K w.params).In h)
    (F : ∀ (w : World) (mg : Str → Option Value) (fa : Addr) (h : Heap), YP w h → (K w.params).In h → h.Ns mainGlobals mg → mg d.name = some (.ref fa) → ∃ fd tabs sp, LawG l w (K w.params) k n x mg fa h fd tabs sp) :
    PySem.W.WalkO q loose XP YP l.row.toRowW d [] (fun f vs => PySem.call f vs) := by
  refine Att.attach_callB most noDef fun w s₀ t mg mb fa o pm cd doc scr us ns G Y _ _ _ inG list areInts len bits still => ?_
  obtain ⟨fd, tabs, sp, L⟩ := F w mg fa _ Y (isIn w _ Y) G.T.g inG
  have T : TopS (K w.params) mg tabs scr us t := ⟨isIn w _ Y, G.T.g, ⟨mb, G.T.b, G.T.builtins⟩, G.T.nolimit, still, L.empty, L.apart, L.codes, G.T.bmain, list⟩
  have mods : ∃ mm, t.heap.Ns sysModules mm := by
    obtain ⟨mm, h, _⟩ := (G.T.seer plain).mods
    exact ⟨mm, h⟩
  have rel := vals_ints areInts
  have lenU : ns.length = us.length := areInts.length.symm
  have line : (ns.map V.int).length ≤ sizeLine := by
    rw [List.length_map]
    omega
  have notTab : ¬ ∃ c ∈ tabs, scr = c.2 := fun ⟨c, hc, z⟩ => by
    have e := L.empty c hc
    rw [← z, list] at e
    have e2 : Data.seq us.toArray _ = Data.fields #[] := congrArg Obj.data (Option.some.inj e)
    cases e2
  haveI : DecidablePred fun b : Addr => ∃ c ∈ tabs, b = c.2 := fun b => Classical.propDecidable _
  cases known : (K w.params).lookup scr with
  | some ob =>
    have same := (isIn w _ Y) scr ob known
    rw [list] at same
    cases same
    let H : Hp := fun b => if ∃ c ∈ tabs, b = c.2 then some (.tbl #[]) else none
    have noScr : H scr = none := if_neg notTab
    have few : Few tabs scr H := fun b tr => Classical.byContradiction fun no => tr (if_neg fun z => no (.inr z))
    have tabsH : ∀ c ∈ tabs, H c.2 = some (.tbl #[]) := fun c hc => if_pos ⟨c, hc, rfl⟩
    refine T.run few (fun tr => absurd noScr tr) (fun b u at_ => ?_) (L.keeps _ ?_ ?_ ?_ ?_) room (L.binds _ _) (L.wants H scr ns len bits tabsH (.inr ⟨_, us.toArray, _, known, rfl, rfl, rfl, ?_, ?_⟩)) tabsH (.inl noScr)
    · by_cases tb : ∃ c ∈ tabs, b = c.2
      · have e := (if_pos tb).symm.trans at_
        cases e
        obtain ⟨c, hc, rfl⟩ := tb
        exact L.empty c hc
      · have e := (if_neg tb).symm.trans at_
        cases e
    · exact T.base_in few fun tr => absurd noScr tr
    · exact T.ns few T.globals
    · exact fun c hc => T.base_tab few c hc
    · exact mods.elim fun mm h => ⟨mm, T.ns few h⟩
    · rw [List.size_toArray]
      omega
    · simpa using rel
  | none =>
    let H : Hp := fun b => if b = scr then some (.frz { cls := .type "list", data := .seq us.toArray } (.lst (ns.map V.int))) else if ∃ c ∈ tabs, b = c.2 then some (.tbl #[]) else none
    have scrH : H scr = some (.frz { cls := .type "list", data := .seq us.toArray } (.lst (ns.map V.int))) := if_pos rfl
    have few : Few tabs scr H := fun b tr => Classical.byContradiction fun no => tr ((if_neg fun z => no (.inl z)).trans (if_neg fun z => no (.inr z)))
    have tabsH : ∀ c ∈ tabs, H c.2 = some (.tbl #[]) := fun c hc => (if_neg fun z => notTab ⟨c, hc, z.symm⟩).trans (if_pos ⟨c, hc, rfl⟩)
    refine T.run few (fun _ => known) (fun b u at_ => ?_) (L.keeps _ ?_ ?_ ?_ ?_) room (L.binds _ _) (L.wants H scr ns len bits tabsH (.inl (.inr ⟨_, scrH⟩))) tabsH (.inr (.inr ⟨_, _, scrH⟩))
    · by_cases is : b = scr
      · subst is
        have e := scrH.symm.trans at_
        cases e
        exact ⟨list, line, us, 0, rel, list⟩
      · have e1 := (if_neg is).symm.trans at_
        by_cases tb : ∃ c ∈ tabs, b = c.2
        · have e := (if_pos tb).symm.trans e1
          cases e
          obtain ⟨c, hc, rfl⟩ := tb
          exact L.empty c hc
        · have e := (if_neg tb).symm.trans e1
          cases e
    · exact T.base_in few fun _ => known
    · exact T.ns few T.globals
    · exact fun c hc => T.base_tab few c hc
    · exact mods.elim fun mm h => ⟨mm, T.ns few h⟩
end FS

set_option Elab.async false
set_option linter.all false
set_option maxRecDepth 100000
set_option maxHeartbeats 4000000
/-! own error classes with an own __init__ over any of the built-in ones: made -/
namespace PySem
namespace FSX
open PySem.W PySem.Calls PyProof.Rows PySem.HandSPX
/-- what the making asks of the classes above -/
structure Above (bm : List Value) (B : String) : Prop where
  has : bm.contains (.type B) = true
  noA : bm.contains (.type "AttributeError") = false
  noN : bm.contains (.type "NameError") = false
section
variable {M : Model} {A : Around} {E : Value → Shared → Prop} {mem : Heap} {gs : Array GenState} {dr : Drawn} {tk : Nat} {os : OsState}
variable {nm q : Str} {C N : Addr} {bs bm bmB : List Value} {hdct : Bool} {sn : List Str} {sub : List Value} {ab : Bool} {col : Option Bool} {dd : Option Addr} {k0 k1 k2 k3 k5 : Option Value} {B newId initId : String}
theorem made_check (F : ExcBaseFacts B newId initId bmB) (U : Above bm B) {given : List Value} {Q : Unit → Shared → Prop} (at_ : mem.get? C = some (excClassObj nm q C N bs bm hdct sn sub ab col dd k0 k1 k2 k3 k5 newId)) (goal : Q () ⟨mem, gs, dr, tk, os⟩) :
    wpAny M A (checkBuiltinCall newId ⟨.ref C :: given, []⟩) Q E ⟨mem, gs, dr, tk, os⟩ := by
  have under : (Value.ref C :: bm).contains (.type B) = true := by
    rw [List.contains_cons, U.has]
    exact Bool.or_true _
  have noStar := F.noStar
  simp only [checkBuiltinCall, F.newKind, F.newSplit, F.newRow]
  repeat first
    | refine wpAny_loadPart_at at_ ?_
    | (refine wpAny_isSubtype_exc at_ ?_; rw [under])
    | refine wpAny_staticBase_exc at_ ?_
    | refine wpAny_madeBy_exc at_ ?_
    | simp only [bne_self_eq_false,
        Bool.false_eq_true, if_false]
    | wp_step
  exact goal
end
section
variable {prog : Program} {w : World} {A : Around} {E : Value → Shared → Prop} {R : Result → Shared → Prop} {mem : Heap} {gs : Array GenState} {dr : Drawn} {tk : Nat} {os : OsState}
variable {nm q : Str} {C N : Addr} {bs bm bmB : List Value} {hdct : Bool} {sn : List Str} {sub : List Value} {ab : Bool} {col : Option Bool} {dd : Option Addr} {k0 k1 k2 k3 k5 : Option Value} {B newId initId : String}
/-- the object and its args, laid -/
abbrev laidE (mem : Heap) (C : Addr) (given : List Value) : Heap := (mem.push (W.kdv_tup given)).push (excO C mem.objs.size)
theorem made_new (F : ExcBaseFacts B newId initId bmB) (U : Above bm B) {given : List Value} (at_ : mem.get? C = some (excClassObj nm q C N bs bm hdct sn sub ab col dd k0 k1 k2 k3 k5 newId)) (short : given.length ≤ sizeLine)
    (goal : R (.ok (.ret (.ref (mem.objs.size + 1)))) ⟨laidE mem C given, gs, dr, tk, os⟩) : codeAny (model prog w) A (.builtin newId ⟨.ref C :: given, []⟩) R ⟨mem, gs, dr, tk, os⟩ := by
  have yes : (Value.ref C :: bm).contains (.type B) = true := by
    rw [List.contains_cons, U.has]
    exact Bool.or_true _
  have no1 : (Value.ref C :: bm).contains (.type "AttributeError") = false := by
    rw [List.contains_cons, U.noA]
    rfl
  have no2 : (Value.ref C :: bm).contains (.type "NameError") = false := by
    rw [List.contains_cons, U.noN]
    rfl
  have ending := F.ends
  refine codeAny_builtinAt F.entry ?_
  unfold Builtin.«BaseException.__new__»
  refine wpAt_bind ?_
  show wpAt _ _ _
    (stack >>= _) _ _ _
  refine wpAt_bind (wpAt_stack fun p below =>
    wpAt_of_wpAny ?_)
  wp_walk
  refine wpAt_of_wpAny ?_
  rw [F.owner]
  repeat first
    | with_reducible refine wpAny_madeHere_exc F.canon at_ ?_
    | with_reducible refine wpAny_loadPart_at at_ ?_
    | (with_reducible refine wpAny_isSubtype_exc at_ ?_; first | rw [yes] | rw [no1] | rw [no2])
    | wp_step
  show R _ _
  rw [Heap.size_push]
  exact goal
theorem made_type (F : ExcBaseFacts B newId initId bmB) (U : Above bm B) {given : List Value} {fI : Addr} {Q : Fin → Shared → Prop} (at_ : mem.get? C = some (excClassObj nm q C N bs bm hdct sn sub ab col dd k0 k1 k2 k3 k5 newId))
    (own : W.Looks (model prog w) mem (typeLookup (.ref C) "__init__") (some (.ref fI))) (bound : ∀ self, W.Looks (model prog w) mem (bindSpecial (.ref fI) self) (.ref fI, [self])) (short : given.length ≤ sizeLine)
    (run : codeAny (model prog w) A (.call (.ref fI) ⟨.ref (mem.objs.size + 1) :: given, []⟩) (fun r s' => match r with | .ok (.ret v) => v = .none ∧ Q (.done (.ret (.ref (mem.objs.size + 1)))) s' | .ok _ => False | .error e => E e s') ⟨laidE mem C given, gs, dr, tk, os⟩) :
    wpAny (model prog w) A (Builtin.«type.__call__» ⟨.ref C :: given, []⟩) Q E ⟨mem, gs, dr, tk, os⟩ := by
  repeat first
    | with_reducible refine wpAny_loadPart_at at_ ?_
    | with_reducible refine wpAny_madeBy_exc at_ ?_
    | wp_step
  refine codeAny_call_builtin_code (Code.quiet_builtin _ F.quiet) (made_check F U at_ (made_new F U at_ short ?_))
  show wpAny _ _ _ _ _ _
  have grow : ∀ b o, mem.get? b = some o → (laidE mem C given).get? b = some o := fun b o e =>
    Heap.get?_push_of_some _ (Heap.get?_push_of_some _ e)
  have at2 := grow _ _ at_
  have obj : (laidE mem C given).get? (mem.objs.size + 1) = some (excO C mem.objs.size) := by
    show ((mem.push (W.kdv_tup given)).push _).get? _ = _
    heap_get
  have self : (Value.ref C :: bm).contains (.ref C) = true := by
    rw [List.contains_cons, beq_self_eq_true]
    rfl
  have look := own.keeps grow
  have bind := (bound (.ref (mem.objs.size + 1))).keeps grow
  unfold isInstance
  repeat first
    | with_reducible refine wpAny_loadPart_at obj ?_
    | (with_reducible refine wpAny_isSubtype_exc at2 ?_; rw [self])
    | wp_step
  show wpAny _ _ (typeLookup
    (.ref C) _) _ _ _
  refine look.at (wpAny_holding (wpAny_bind (bind.at (wpAny_bind (wpAny_call (codeAny_mono run fun r s' z => ?_))))))
  match r, z with
  | .error e, z => exact z
  | .ok .next, z => exact z.elim
  | .ok .brk, z => exact z.elim
  | .ok .cont, z => exact z.elim
  | .ok (.ret v), z =>
    obtain ⟨rfl, z⟩ := z
    first
      | exact wpAny_pure (wpAny_pure z)
      | (wp_walk; exact z)
theorem made_call (F : ExcBaseFacts B newId initId bmB) (U : Above bm B) {given : List Value} {fI : Addr} (at_ : mem.get? C = some (excClassObj nm q C N bs bm hdct sn sub ab col dd k0 k1 k2 k3 k5 newId))
    (own : W.Looks (model prog w) mem (typeLookup (.ref C) "__init__") (some (.ref fI))) (bound : ∀ self, W.Looks (model prog w) mem (bindSpecial (.ref fI) self) (.ref fI, [self])) (short : given.length ≤ sizeLine)
    (run : codeAny (model prog w) (A.under (.builtin "type.__call__" ⟨.ref C :: given, []⟩)) (.call (.ref fI) ⟨.ref (mem.objs.size + 1) :: given, []⟩) (W.InitBack (mem.objs.size + 1) R) ⟨laidE mem C given, gs, dr, tk, os⟩) :
    codeAny (model prog w) A (.call (.ref C) ⟨given, []⟩) R ⟨mem, gs, dr, tk, os⟩ := by
  have lookup := tc_lookup
  have binds := tc_bind (.ref C)
  have kind : (⟨mem, gs, dr, tk, os⟩ : Shared).TypeIs (.ref C) "type" := ⟨_, at_, rfl⟩
  refine codeAny_of_tree ?_
  show wpAny _ _ (callAny
    (.ref C) _) _ _ _
  repeat any_goals first
    | assumption
    | with_reducible refine wpAny_loadPart_at at_ ?_
    | wp_step
  refine ⟨rfl, codeAny_call_builtin_at (Code.quiet_builtin _ (by decide +kernel)) entry_typeCall
    (wpAny_check_type_call_sub at_ (made_type F U at_ own bound short (codeAny_mono run fun r s' z => ?_)))⟩
  match r, z with
  | .error e, z => exact z
  | .ok .next, z => exact z
  | .ok .brk, z => exact z
  | .ok .cont, z => exact z
  | .ok (.ret v), z => exact z
end
end FSX
end PySem

set_option Elab.async false
set_option linter.all false
set_option maxRecDepth 100000
set_option maxHeartbeats 4000000
namespace PySem
namespace FSX
open PySem.W PySem.Calls PyProof.Rows PySem.HandSPX
open Builtin Builtin.ObjectAttr
/-- stores on what stems from KeyError -/
theorem store_KeyErr : StoreFacts "KeyError" [.type "KeyError", .type "LookupError", .type "Exception", .type "BaseException", .type "object"] "object.__setattr__" "object" where
  mro := by
    rw [mroOf_type]
    kernel_rfl
  slot := by
    refine Slot.of (owner := "object") (n := "__setattr__") ?_ (by decide +kernel) (by decide +kernel) ?_ (Or.inl ?_) ?_
    · rw [typeLookup_type, builtinLookup_eq_fast]
      kernel_rfl
    · decide +kernel
    · decide +kernel
    · rw [isSubtype_type]
      kernel_rfl
  entry := F.store_object.entry
  kind := F.store_object.kind
  split := F.store_object.split
  hasOwner := by decide
  args := F.store_object.args
  passes := fun _ => by kernel_rfl
section
variable {prog : Program} {w : World} {A : Around} {R : Result → Shared → Prop} {mem : Heap} {gs : Array GenState} {dr : Drawn} {tk : Nat} {os : OsState}
/-- self.name = v, where the error has no dict yet -/
theorem first_field {K : W.Frag} {bmB : List Value} {B : String} {name : Str} {nt : Tok} {v : Value} {x C : Addr} {fv : Array Value} {cd : ClassData} (SF : StoreFacts B bmB "object.__setattr__" "object")
    (isIn : K.In mem) (at_ : mem.get? x = some { cls := .ref C, data := .fields fv }) (cls : W.clsIn K C = some cd) (over : excOver K C bmB = true) (dict : cd.hasDict = true) (no : W.findIn K (.ref C) name = some none)
    (goal : ∀ mem' tk' dx, (∀ b o, b ≠ x → mem.get? b = some o → mem'.get? b = some o) → mem.objs.size ≤ dx → dx ≠ x → mem'.get? x = some { cls := .ref C, dict := some dx, data := .fields fv } →
      mem'.Ns1 dx (fun y => if y = name then some v else none) → R (.ok (.ret .none)) ⟨mem', gs, dr, tk', os⟩) :
    codeAny (model prog w) A (.call (.builtin "object.__setattr__") ⟨[.ref x, .str name nt, v], []⟩) R ⟨mem, gs, dr, tk, os⟩ := by
  have I : W.InstAt mem x { cls := .ref C, data := .fields fv } C none := ⟨at_, rfl, rfl, trivial⟩
  have apart : x ≠ mem.objs.size := Nat.ne_of_lt (Heap.lt_size at_)
  have look : W.Looks (model prog w) mem (classData C) cd := W.looks_clsIn isIn cls
  refine osa_openX (s := ⟨mem, gs, dr, tk, os⟩) (r := none) SF isIn I over (by unfold takerIn; rw [no]; rfl) fun b => ?_
  obtain ⟨nm, bs, mro, ns, qn, hd, sn, sb, ab, col, del⟩ := cd
  replace dict : hd = true := dict
  subst dict
  show wpAny _ _ (storeInOwnDict _ _ _ _ _ _) _ _ _
  unfold storeInOwnDict ownDictForStores
  repeat first
    | with_reducible refine store_in_new ?_ ?_
    | with_reducible refine wpAny_loadPart_at at_ ?_
    | with_reducible refine look.at ?_
    | wp_step
  · exact ⟨_, #[], _, (Heap.get?_update_ne _ _ _ _ apart.symm).trans (Heap.get?_push_at rfl rfl), rfl,
      fun e z => absurd z (by simp), fun _ => rfl⟩
  · intro mem' tk' new same
    have before : (mem.push { cls := .type "dict", data := .dict #[] }).get? x = some { cls := .ref C, data := .fields fv } :=
      Heap.get?_push_of_some _ at_
    refine goal mem' tk' mem.objs.size (fun b o ne bo => ?_) (Nat.le_refl _) apart.symm ?_ new
    · exact (same.2 b (Nat.ne_of_lt (Heap.lt_size bo))).trans
        ((Heap.get?_update_ne _ _ _ _ ne).trans (Heap.get?_push_of_some _ bo))
    · exact (same.2 x apart).trans
        (Heap.get?_update_self _ before rfl)
end
end FSX
end PySem

set_option Elab.async false
set_option linter.all false
set_option maxRecDepth 100000
set_option maxHeartbeats 4000000
/-! own errors as values: made, their field read, their class asked -/
namespace FS
open PySem PySem.Spec PyProof.Rows L2
/-- what the built-in class above an own error gives -/
structure BaseE (newId : String) (bmB : List Value) : Prop where
  ex : ∃ (B initId B2 : String) (bmF : List Value), ExcBaseFacts B newId initId bmF ∧ bmB.contains (.type B) = true ∧ StoreFacts B2 bmB "object.__setattr__" "object"
  noA : bmB.contains (.type "AttributeError") = false
  noN : bmB.contains (.type "NameError") = false
/-- an own error with an own __init__ -/
structure OexW (K : PySem.W.Frag) (C : Addr) (newId : String) (bmB : List Value) : Prop where
  made : PySem.W.excInitIn K C bmB newId = true
  over : PySem.W.excOver K C bmB = true
  hd : PySem.W.hasDictIn K C = true
  sa : PySem.W.findIn K (.ref C) "__setattr__" = some (some (.builtin "object.__setattr__"))
  exC : PySem.W.subIn K (.ref C) (.type "BaseException") = some true
  tyC : PySem.W.typeIn K (.ref C) = some (.type "type")
  kC : PySem.W.keepIn K (.ref C) = true
  base : BaseE newId bmB
section
variable {X : Cx} {pins : List (Addr × Obj)} {σ : L2.St} {H : Hp} {s : Shared} {a C : Addr} {f : Str} {y : V} {u : Value} {Q : Unit → Shared → Prop} {E : Value → Shared → Prop} {A : Around} {newId : String} {bmB : List Value}
theorem field_new (T : OexW X.K C newId bmB) (I : Inv X pins σ H s) (e : H a = some (exo a C none)) (no : PySem.W.findIn X.K (.ref C) f = some none) (ry : RelV y u)
    (goal : ∀ dx s', H dx = none → dx ≠ a → Inv X pins σ (upd (upd H dx (exd dx [(f, y)])) a (exo a C (some dx))) s' → Q () s') : wpAny (model X.prog X.w) A (setAttr (.ref a) f u) Q E s := by
  obtain ⟨B, initId, B2, bmF, FB, has, SF⟩ := T.base.ex
  obtain ⟨cd, cls, dict⟩ := PySem.W.any_some T.hd
  obtain ⟨t1, at_⟩ := exo_at I.hok e
  obtain ⟨mem, gs, dr, tk, os⟩ := s
  refine PySem.W.set_plain I.kIn (ox := { cls := .ref C, dict := none, data := .fields #[.ref t1, .none, .none, .none, .bool false, .none] }) (od := none) ⟨at_, rfl, rfl, trivial⟩ T.sa ?_
  refine PySem.FSX.first_field SF I.kIn at_ cls T.over dict no fun mem' tk' dx keep fresh ne atX new => ?_
  have free : H dx = none := I.hok.fresh fresh
  have other : ∀ {b : Addr} {o : Obj}, mem.get? b = some o → b ≠ dx := fun {b o} q => Nat.ne_of_lt (Nat.lt_of_lt_of_le (Heap.lt_size q) fresh)
  have away : ∀ {b : Addr}, H b = none → b ≠ a := fun {b} n z => by
    rw [z, e] at n
    cases n
  have U : Un X.fs [] H (upd (upd H dx (exd dx [(f, y)])) a (exo a C (some dx))) mem mem' := by
    refine ⟨?_, ?_, ?_, ?_, ?_, ?_, ?_⟩
    · intro b o q n _ _
      exact keep b o (away n) q
    · intro b o q n _ _
      exact ⟨o.slots, keep b o (away n) q⟩
    · intro b o q n _
      rw [upd_ne (away n), upd_ne (other q)]
      exact n
    · intro b o q _
      rcases Classical.em (b = a) with rfl | nb
      · exact ⟨_, atX⟩
      · exact ⟨o, keep b o nb q⟩
    · intro b xs q
      rw [upd_ne (at_ne e q exo_tup), upd_ne (ne_of_none q free)]
      exact q
    · intro b o v q
      rw [upd_ne (at_ne e q exo_frz), upd_ne (ne_of_none q free)]
      exact q
    · intro b ps q
      refine ⟨#[], ?_⟩
      rw [upd_ne (at_ne e q exo_tbl), upd_ne (ne_of_none q free), q, Array.append_empty]
  refine goal dx _ free ne (I.un (t' := tk') U fun b o q => ?_)
  rcases Classical.em (b = a) with rfl | nb
  · rw [upd_same] at q
    cases q
    exact exo_ok atX
  rw [upd_ne nb] at q
  rcases Classical.em (b = dx) with rfl | nd
  · rw [upd_same] at q
    cases q
    exact exd_ok new (relO_put (fs := []) ry fun _ => True.intro)
  rw [upd_ne nd] at q
  refine (I.hok b o q).stay (fun c v hc z => keep c v ?_ z) (fun c hc => ?_) (fun c xs hc => ?_)
  · rcases hc with rfl | hc
    · exact nb
    · exact at_ne e hc exo_own
  · rw [upd_ne (at_ne e hc exo_own), upd_ne (ne_of_none hc free)]
    exact hc
  · rw [upd_ne (at_ne e hc exo_tup), upd_ne (ne_of_none hc free)]
    exact hc
end
/-- self.f = e, the first one -/
def tFst (K : PySem.W.Frag) (newId : String) (bmB : List Value) (f : Str) (to te : TE) : TS := fun D σ H => te σ H fun y H1 => to σ H1 fun x H2 => ∃ a C : Addr, x = .ref a ∧ OexW K C newId bmB ∧ PySem.W.findIn K (.ref C) f = some none ∧
  H2 a = some (exo a C none) ∧ ∀ dx, H2 dx = none → dx ≠ a → D.nx σ (upd (upd H2 dx (exd dx [(f, y)])) a (exo a C (some dx)))
/-- C(e), C's own __init__ keeping sp -/
def tErr (C : Addr) (sp : Sp) (ta : TA) : TE := fun σ H Q => ta σ H fun vs H1 => vs.length ≤ 1000 ∧ ∀ a, H1 a = none → sp (.ref a :: vs) (upd H1 a (exo a C none)) (fun v H2 => v = .non ∧ Q (.ref a) H2) E0
section
variable {X : Cx} {o e : Expr} {es : List Expr} {to te : TE} {ta : TA} {f : Str} {p p' pos : Pos} {newId : String} {bmB : List Value}
theorem ps_fst (ho : PE X o to) (he : PE X e te) (hs : swapsWith e (some (.Attribute o f p')) pos.line X.env = pure false := by rfl) : PS X (.Assign [.Attribute o f p'] e pos) (tFst X.K newId bmB f to te) := by
  refine ⟨fun pins s σ H D I h => ?_⟩
  refine plainObj_wpAny_Assign_Attribute (thn (he.run pins s σ H _ I h) fun v s1 ⟨y, H1, I1, r1, q1⟩ =>
    thn (ho.run pins s1 σ H1 _ I1 q1) fun u s2 ⟨x, H2, I2, r2, a, C, ex, T, no, ea, q⟩ => ?_) hs
  subst ex
  obtain rfl : u = Value.ref a := r2
  exact field_new T I2 ea no r1 fun dx s' n ne J => ⟨σ, _, J, q dx n ne⟩
theorem pe_err {x : Str} {C fI : Addr} {k : Nat} {fd : FuncData} {ps : List Str} {sp : Sp} (T : OexW X.K C newId bmB) (own : PySem.W.findIn X.K (.ref C) "__init__" = some (some (.ref fI))) (kind : PySem.W.typeIn X.K (.ref fI) = some (.type "function"))
    (F : FnOk X.prog X.w X.K X.mg X.base CX0 k fI fd ps sp) (hr : Room (k + 1) X.A) (hb : Binds X.K fd ps []) (hg : Gl X x) (hm : X.mg x = some (.ref C)) (ha : PA X (e :: es) ta)
    (hdb : (x == ("__debug__" : Str)) = false := by decide) (he : starEach (e :: es) X.env = (false, eval e X.env) :: starEach es X.env := by rfl) (hpl : (backTo pos (starEach es X.env)).any (·.1) = false := by rfl) :
    PE X (.Call (.Name x p) (e :: es) [] pos) (tErr C sp ta) := by
  refine ⟨fun pins s σ H Q I h => wpAny_Call_Name_kw (ld_glob I hg hm ?_ hdb)⟩
  refine PySem.W.callWith_K (h₀ := X.base) I.ok.mod.kin T.kC (thn (ha.run pos pins s σ H _ I h) fun us s1 ⟨vs, H1, I1, r1, hz, q1⟩ => ⟨I1.kIn, ?_⟩) he hpl
  obtain ⟨B, initId, B2, bmF, FB, has, SF⟩ := T.base.ex
  obtain ⟨nm, N, qn, bs, bm, hdct, sn, sub, ab, col, dd, k0, k1, k2, k3, k5, hC, hT⟩ := PySem.W.excInit_of I1.kIn T.made
  have up : PySem.FSX.Above bm B := ⟨by rw [hT, has], by rw [hT, T.base.noA], by rw [hT, T.base.noN]⟩
  show wpAny _ _ (call (.ref C) us) _ _ _
  obtain ⟨mem, gs, dr, tk, os⟩ := s1
  have past : mem.objs.size ≤ mem.objs.size + 1 := Nat.le_succ _
  have free : H1 (mem.objs.size + 1) = none := I1.hok.fresh past
  have told := q1 (mem.objs.size + 1) free
  have grow : ∀ b o, mem.get? b = some o → (PySem.FSX.laidE mem C us).get? b = some o := fun b o z => Heap.get?_push_of_some _ (Heap.get?_push_of_some _ z)
  have at_ : (PySem.FSX.laidE mem C us).get? (mem.objs.size + 1) = some (PySem.HandSPX.excO C mem.objs.size) := by
    show ((mem.push (PySem.W.kdv_tup us)).push _).get? _ = _
    heap_get
  have I2 : Inv X pins σ (upd H1 (mem.objs.size + 1) (exo (mem.objs.size + 1) C none)) ⟨PySem.FSX.laidE mem C us, gs, dr, tk, os⟩ := I1.laid (t' := tk) grow past (exo_ok at_)
  have r2 : Vals (V.ref (mem.objs.size + 1) :: vs) (Value.ref (mem.objs.size + 1) :: us) := .cons rfl r1
  have len : (Value.ref (mem.objs.size + 1) :: us ++ []).length = ps.length := by
    rw [List.append_nil, ← r2.length]
    exact F.len _ _ _ _ told
  have short : us.length ≤ sizeLine := by
    rw [← Paired.length r1, sizeLine_eq]
    omega
  have bind := hb _ (Value.ref (mem.objs.size + 1) :: us) I2.kIn len
  rw [List.append_nil] at bind
  have run := F.run _ X.stack _ _ ⟨Value.ref (mem.objs.size + 1) :: us, []⟩ _ _ _ E0 (hr.make C us []) (I2.env0.make C us []) bind r2 told
  refine wpAny_call (PySem.FSX.made_call FB up hC (PySem.W.looks_findIn I1.kIn own) (fun self => PySem.W.bind_fn I1.kIn self kind) short (codeAny_mono run fun r s' z => ?_))
  match r, z with
  | .error er, z => exact z.elim
  | .ok .next, z => exact z.elim
  | .ok .brk, z => exact z.elim
  | .ok .cont, z => exact z.elim
  | .ok (.ret u), z =>
    obtain ⟨v, H2, I3, rv, ev, q2⟩ := I2.after z
    subst ev
    exact ⟨rv, .ref _, H2, I3, rfl, q2⟩
end
end FS

set_option Elab.async false
set_option linter.all false
set_option maxRecDepth 100000
set_option maxHeartbeats 4000000
namespace FS
open PySem PySem.Spec PyProof.Rows L2
/-- what stands of an own error's class for its instances to be asked -/
structure Err (K : PySem.W.Frag) (C : Addr) : Prop where
  xf : XfC K C
  ha : PySem.W.findIn K (.ref C) "__class__" = some (some (.builtin "object.__class__"))
  hn : PySem.W.specialIn K (.builtin "object.__class__") "__get__" = some (some (.builtin "getset_descriptor.__get__"))
  htk : PySem.W.takesIn K (.builtin "object.__class__") = some true
  hm : PySem.W.mroIn K C (.type "object") = some true
theorem Err.cls {K : PySem.W.Frag} {C : Addr} (T : Err K C) : (PySem.W.clsIn K C).isSome = true := by
  obtain ⟨cd, h, _⟩ := PySem.W.any_some T.xf.hdC
  rw [h]
  rfl
/-- an error in the heap: its class, its field -/
def ErrAt (H : Hp) (a C : Addr) (fs : Option (List (Str × V))) : Prop := ∃ d : Option Addr, H a = some (exo a C d) ∧ match d, fs with
  | none, none => True
  | some dx, some l => H dx = some (exd dx l)
  | _, _ => False
section
variable {X : Cx} {pins : List (Addr × Obj)} {σ : L2.St} {H : Hp} {s : Shared}
theorem ErrAt.inst (I : Inv X pins σ H s) {a C : Addr} {fs : Option (List (Str × V))} (h : ErrAt H a C fs) : ∃ (ox : Obj) (od : Option Obj), PySem.W.InstAt s.heap a ox C od ∧ ∀ l f y, fs = some l → l.lookup f = some y → ∃ o u, od = some o ∧ PySem.W.lookIn f o = some (some u) ∧ RelV y u := by
  obtain ⟨d, e, m⟩ := h
  obtain ⟨t1, at_⟩ := exo_at I.hok e
  match d, fs, m with
  | none, none, _ => exact ⟨_, none, ⟨at_, rfl, rfl, trivial⟩, fun l f y z => nomatch z⟩
  | some dx, some l, m =>
    obtain ⟨mA, hns, rel⟩ := exd_at I.hok m
    obtain ⟨od, ho, hl⟩ := lookIn_ns hns
    refine ⟨_, some od, ⟨at_, rfl, rfl, ho⟩, fun l' f y z q => ?_⟩
    cases z
    obtain ⟨u, hu, ru⟩ := RelO.some_of (v := y) (o := mA f) (by rw [← q]; exact rel f)
    exact ⟨od, u, rfl, by rw [hl, hu], ru⟩
end
/-- isinstance(e, c), e an own error -/
def rIsiE (K : PySem.W.Frag) : List V → Hp → VK → Prop := fun xs H Q => ∃ (a C : Addr) (fs : Option (List (Str × V))) (c : V) (u : Value) (b : Bool), xs = [.ref a, c] ∧ ErrAt H a C fs ∧ Err K C ∧ ClsV c u ∧ PySem.W.kitOne K (.ref C) u = some b ∧ Q (.bl b) H
theorem call_isiE {X : Cx} : CallR X (.builtin "isinstance") (rIsiE X.K) := by
  intro pins s σ H xs us Q I r h
  obtain ⟨a, C, fs, c, u, b, rfl, ea, T, k, e, q⟩ := h
  obtain ⟨u1, u2, rfl, r1, r2⟩ := vals2 r
  obtain rfl := k.eq r2
  obtain rfl : u1 = Value.ref a := r1
  obtain ⟨ox, od, J, _⟩ := ea.inst I
  exact PySem.W.kia_one (PySem.W.kitx_exc (x := a) (ox := ox) (od := od) T.cls T.xf.ga T.xf.gg T.xf.exC T.ha T.hn T.htk T.hm) I.kIn J e (fun z => nomatch z) fun tk => ⟨.bl b, H, I.tok tk, rfl, q⟩
/-- e.f, e an own error -/
def tFldE (K : PySem.W.Frag) (f : Str) (te : TE) : TE := fun σ H Q => te σ H fun x H1 => ∃ (a C : Addr) (l : List (Str × V)) (y : V), x = .ref a ∧ ErrAt H1 a C (some l) ∧ Err K C ∧ PySem.W.findIn K (.ref C) f = some none ∧ l.lookup f = some y ∧ Q y H1
theorem pe_fldE {X : Cx} {e : Expr} {te : TE} {pos : Pos} {f : Str} (he : PE X e te) (hb : attributeBase e f X.env (eval e X.env) = eval e X.env := by rfl) : PE X (.Attribute e f pos) (tFldE X.K f te) := by
  refine ⟨fun pins s σ H Q I h => attr_of hb (thn (he.run pins s σ H _ I h) fun u s1 told => ?_)⟩
  obtain ⟨x, H1, I1, rx, a, C, l, y, ex, ea, T, no, look, q⟩ := told
  subst ex
  obtain rfl : u = Value.ref a := rx
  obtain ⟨ox, od, J, val⟩ := ea.inst I1
  obtain ⟨o, u, rfl, hl, ru⟩ := val l f y rfl look
  exact HandSPX.exc_get I1.kIn J T.xf.ga T.xf.gg T.xf.exC (PySem.W.findObj_own T.xf.hdC no rfl hl) (handed_of ru) ⟨y, H1, I1.tok _, ru, q⟩
/-- C(e), no own __init__ -/
def tErrB (C : Addr) (te : TE) : TE := fun σ H Q => te σ H fun _ H1 => ∀ a, H1 a = none → Q (.ref a) (upd H1 a (exo a C none))
theorem pe_errB {X : Cx} {C : Addr} {bmB : List Value} {B newId initId : String} {x : Str} {e : Expr} {te : TE} {p pos : Pos} (F : ExcBaseFacts B newId initId bmB) (is : PySem.W.excIn X.K C bmB newId = true) (gC : X.mg x = some (.ref C)) (kC : PySem.W.keepIn X.K (.ref C) = true) (hg : Gl X x)
    (he : PE X e te) (hs : starEach [e] X.env = (false, eval e X.env) :: starEach [] X.env := by rfl) (hdb : (x == ("__debug__" : Str)) = false := by decide) : PE X (.Call (.Name x p) [e] [] pos) (tErrB C te) := by
  refine ⟨fun pins s σ H Q I h => wpAny_Call_Name_kw (ld_glob I hg gC ?_ hdb)⟩
  refine PySem.W.callWith_K (h₀ := X.base) I.ok.mod.kin kC ?_ hs (by rfl)
  rw [hs]
  show wpAny _ _ (spliced ((false, eval e X.env) ::
    backTo pos (starEach [] X.env))) _ _ s
  refine Calls.spliced_cons (thn (he.run pins s σ H _ I h) fun u s1 ⟨v, H1, I1, r1, q1⟩ => Calls.spliced_nil ⟨I1.kIn, ?_⟩)
  obtain ⟨bm, N, nm, qn, bs, hdct, sn, sub, ab, col, dd, k0, k1, k2, k3, k5, mN, hC, hN, hni, T⟩ := exc_obj I1.kIn is
  show wpAny _ _ (call (.ref C) [u]) _ _ _
  obtain ⟨mem, gs, dr, tk, os⟩ := s1
  refine wpAny_call_exc_subT F T hC hN hni (fun mem' a hm => ?_) (by show 1 ≤ sizeLine; decide)
  have free : H1 a = none := I1.hok.gone hm.new
  obtain ⟨t, at_, _⟩ := hm.there
  have other : ∀ {b : Addr} {o : Obj}, mem.get? b = some o → b ≠ a := fun {b o} z y => by
    rw [y, hm.new] at z
    cases z
  have U : Un X.fs [] H1 (upd H1 a (exo a C none)) mem mem' := by
    refine ⟨fun b o z _ _ _ => hm.keeps b o z, fun b o z _ _ _ => ⟨o.slots, hm.keeps b o z⟩, fun b o z n _ => ?_, fun b o z _ => ⟨o, hm.keeps b o z⟩, fun b xs z => ?_, fun b o v z => ?_, fun b ps z => ⟨#[], ?_⟩⟩
    · rw [upd_ne (other z)]
      exact n
    · rw [upd_ne (ne_of_none z free)]
      exact z
    · rw [upd_ne (ne_of_none z free)]
      exact z
    · rw [upd_ne (ne_of_none z free), z, Array.append_empty]
  refine ⟨.ref a, _, I1.un (t' := tk) U (fun b o z => ?_), rfl, q1 a free⟩
  rcases Classical.em (b = a) with rfl | nb
  · rw [upd_same] at z
    cases z
    exact exo_ok at_
  rw [upd_ne nb] at z
  refine (I1.hok b o z).stay (fun c v _ y => hm.keeps c v y) (fun c hc => ?_) (fun c xs hc => ?_)
  · rw [upd_ne (ne_of_none hc free)]
    exact hc
  · rw [upd_ne (ne_of_none hc free)]
    exact hc
/-! ### the built-in ones -/
theorem base_Value : BaseE "ValueError.__new__" [.type "ValueError", .type "Exception", .type "BaseException", .type "object"] := ⟨⟨_, _, _, _, F.excBase_ValueError, by decide +kernel, F.store_ValueError⟩, by decide +kernel, by decide +kernel⟩
theorem base_Lookup : BaseE "LookupError.__new__" [.type "LookupError", .type "Exception", .type "BaseException", .type "object"] := ⟨⟨_, _, _, _, F.excBase_LookupError, by decide +kernel, F.store_LookupError⟩, by decide +kernel, by decide +kernel⟩
theorem base_Key : BaseE "LookupError.__new__" [.type "KeyError", .type "LookupError", .type "Exception", .type "BaseException", .type "object"] := ⟨⟨_, _, _, _, F.excBase_LookupError, by decide +kernel, PySem.FSX.store_KeyErr⟩, by decide +kernel, by decide +kernel⟩
theorem base_Index : BaseE "IndexError.__new__" [.type "IndexError", .type "LookupError", .type "Exception", .type "BaseException", .type "object"] := ⟨⟨_, _, _, _, F.excBase_IndexError, by decide +kernel, F.store_IndexError⟩, by decide +kernel, by decide +kernel⟩
theorem base_Arith : BaseE "ArithmeticError.__new__" [.type "ArithmeticError", .type "Exception", .type "BaseException", .type "object"] := ⟨⟨_, _, _, _, F.excBase_ArithmeticError, by decide +kernel, F.store_ArithmeticError⟩, by decide +kernel, by decide +kernel⟩
theorem base_Over : BaseE "OverflowError.__new__" [.type "OverflowError", .type "ArithmeticError", .type "Exception", .type "BaseException", .type "object"] := ⟨⟨_, _, _, _, F.excBase_OverflowError, by decide +kernel, F.store_OverflowError⟩, by decide +kernel, by decide +kernel⟩
end FS

set_option Elab.async false
set_option linter.all false
set_option maxRecDepth 100000
set_option maxHeartbeats 4000000
/-! several except clauses, each with a name or without -/
namespace FS
open PySem PySem.Spec PyProof.Rows L2
/-- a clause: the class it names, its name's slot, its suite's reading -/
structure Clause where
  c : Value
  i : Option Nat
  ts : Addr → Value → Option Addr → TS
/-- how the suite's ends are met behind the clause -/
def unname (i : Option Nat) (D : Ends) : Ends := match i with
  | none => D
  | some i => { nx := fun σ H => D.nx (σ.set i none) H, rt := D.rt, bk := fun σ H => D.bk (σ.set i none) H, ct := fun σ H => D.ct (σ.set i none) H }
def named (i : Option Nat) (a : Addr) (σ : L2.St) : L2.St := match i with
  | none => σ
  | some i => σ.set i (some (.ref a))
/-- what the clauses wish of an error of the body -/
def wClauses (K : PySem.W.Frag) (n : Nat) (Wout : WX) (D : Ends) : List Clause → WX
  | [] => Wout
  | k :: r => fun cls d σ H => ∃ b, PySem.W.exmOne K cls k.c = some b ∧ (b = true → ∀ a, H a = none → σ.length = n → k.ts a cls d (unname k.i D) (named k.i a σ) H) ∧ (b = false → wClauses K n Wout D r cls d σ H)
inductive NameOk (X : Cx) : Option Str → Option Nat → Prop
  | no : NameOk X none none
  | as {n : Str} {i : Nat} (at_ : X.N[i]? = some n) (loc : X.env.kindOf n = some .local) : NameOk X (some n) (some i)
inductive Clauses (X : Cx) : List ExceptHandler → List Clause → Prop
  | nil : Clauses X [] []
  | cons {x : Str} {nm : Option Str} {k : Clause} {b₀ : Stmt} {suite : List Stmt} {np hp : Pos} {hds : List ExceptHandler} {l : List Clause} (names : Names X x k.c) (slot : NameOk X nm k.i)
      (body : ∀ (a : Addr) (oe : Obj) (cls : Value) (d : Option Addr) (pn : List (Addr × Obj)), Zc cls d oe → (∃ vs, oe.data = .fields vs) → PSs (X.suite a ((a, oe) :: pn)) (b₀ :: suite) (k.ts a cls d)) (r : Clauses X hds l) :
      Clauses X (.ExceptHandler (some (.Name x np)) nm (b₀ :: suite) hp :: hds) (k :: l)
section
variable {X : Cx} {body : List Stmt} {h₀ : ExceptHandler} {hds : List ExceptHandler} {l : List Clause} {pos : Pos} {tb : WX → TS} {Wout : WX}
theorem ps_try_named (stk : X.stack = X.env :: X.outer) (frm : X.env.frame = some X.env.locals) (nodup : X.N.Nodup) (out : Takes X Wout)
    (inTry : ∀ (W : WX) (pn : List (Addr × Obj)) (xe : Value → Shared → Prop), Takes (X.tr pn xe) W → PassesOwn (model X.prog X.w) X.A X.env xe → PSs (X.tr pn xe) body (tb W))
    (cl : Clauses X (h₀ :: hds) l) : PS X (.Try body (h₀ :: hds) [] [] pos) (fun D σ H => tb (wClauses X.K X.N.length Wout D l) D σ H) := by
  refine ⟨fun pins s σ H D I told => wpAny_Try_except ?_⟩
  have ok := I.ok
  have frames : X.A.frames = some (X.env :: X.outer) := by
    rw [ok.frames, stk]
  let after : Value → Shared → Prop := fun e s₁ => wpAny (model X.prog X.w) X.A (noteFrame e X.env) (fun _ s₂ =>
    wpAny (model X.prog X.w) X.A (setFlight e none) (fun _ s₃ => wpAny (model X.prog X.w) X.A (handleBy e X.env (h₀ :: hds)) (SP X pins D) X.xe s₃) X.xe s₂) X.xe s₁
  refine wpAny_mono ((inTry (wClauses X.K X.N.length Wout D l) (X.pn ++ pins) after ?caught PassesOwn.looking).run [] s σ H D (I.toTry _) told) ?ended (fun _ _ z => z)
  case ended =>
    intro fl s1 z
    match fl, z with
    | .next, ⟨σ1, H1, J, q⟩ => exact wpAny_execs_nil ⟨σ1, H1, J.ofTry ok, q⟩
    | .brk, ⟨σ1, H1, J, q⟩ => exact ⟨σ1, H1, J.ofTry ok, q⟩
    | .cont, ⟨σ1, H1, J, q⟩ => exact ⟨σ1, H1, J.ofTry ok, q⟩
    | .ret u, ⟨v, σ1, H1, J, rv, q⟩ => exact ⟨v, σ1, H1, J.ofTry ok, rv, q⟩
  case caught =>
    rintro u s1 ⟨a, B, sI, pins1, σ1, H1, cls, d, rfl, J1, away, up, sky, gone, os, gens, wish⟩
    have J : Inv X pins σ1 H1 sI := J1.ofTry ok
    rw [stk] at sky
    show wpAny _ X.A (noteFrame (.ref a) X.env) _ _ _
    refine Sky.land Zc.steady frames frm sky fun mem fly up2 => ?_
    have J2 : Inv X pins σ1 H1 { s1 with heap := mem } := J.landed away fly.1 (up.trans up2) os gens
    obtain ⟨oe, vs, at_, is, data⟩ := fly.there
    have noFrame : a ∉ frs (X.env :: X.outer) := fun hm => by
      obtain ⟨_, o, oAt, not⟩ := fly.2.2.1.mem hm
      rw [at_] at oAt
      exact not vs (by rw [← Option.some.inj oAt]; exact data)
    have n1 : a ≠ X.env.locals := fun z => noFrame (List.mem_filterMap.mpr ⟨X.env, List.mem_cons_self, by rw [frm, z]⟩)
    have n2 : a ∉ X.fs := fun z => by
      obtain ⟨env, mem1, fr⟩ := List.mem_filterMap.mp z
      exact noFrame (List.mem_filterMap.mpr ⟨env, List.mem_cons_of_mem _ mem1, fr⟩)
    have S := J2.suite at_ data gone n1 n2
    have kind : PySem.W.Looks (model X.prog X.w) mem (typeOf (.ref a)) cls := fun A Q E s k q =>
      wpAny_typeOf_ref (k _ _ at_) (by rw [is.1]; exact q)
    have go : ∀ {hs : List ExceptHandler} {ks : List Clause}, Clauses X hs ks → wClauses X.K X.N.length Wout D ks cls d σ1 H1 → wpAny (model X.prog X.w) X.A (handleBy (.ref a) X.env hs) (SP X pins D) X.xe { s1 with heap := mem } := by
      intro hs ks hk
      induction hk with
      | nil =>
        intro w
        refine wpAny_handleBy_nil ?_
        obtain ⟨_, _, _, oe2, vs2, T, oT, ts2, at2, _, data2, first, _⟩ := id fly
        unfold PySem.passOn
        refine wpAny_bind (wpAny_field at2 data2 first ?_)
        rw [if_neg (show ¬ ((Value.ref T == Value.none) = true) by simp)]
        have last : wpAny (model X.prog X.w) X.A (setFlight (.ref a) X.env.frame) (fun _ s4 => wpAny (model X.prog X.w) X.A (throw (.ref a) : Sem Flow) (SP X pins D) X.xe s4) X.xe { s1 with heap := mem } := by
          rw [frm]
          refine HandSPX.setFlight_upZ fly fun mem4 held up4 => wpAny_throw (out _ _ ⟨a, B, sI, pins, σ1, H1, cls, d, rfl, J, away, (up.trans up2).trans up4, .inr (.inr ?_), gone, os, gens, w⟩)
          rw [stk]
          exact held
        first
          | exact wpAny_bind (wpAny_pure (wpAny_bind last))
          | exact wpAny_bind last
      | @cons x nm k b₀ suite np hp hds2 l2 names slot inSuite r ih =>
        obtain ⟨c, i, ts⟩ := k
        rintro ⟨b, is1, yes, no⟩
        refine wpAny_handleBy_cons (codeAny_handlers_test ?_) (fun z => nomatch z)
        have look := PySem.W.exm_one (M := model X.prog X.w) J2.kIn kind is1
        have test : ∀ {Q : Value → Shared → Prop} {E : Value → Shared → Prop}, Q c { s1 with heap := mem } → wpAny (model X.prog X.w) (X.A.mark (some (.ref a))) (eval (.Name x np) X.env) Q E { s1 with heap := mem } := by
          intro Q E q
          obtain ⟨gl, notD, own | ⟨none, boot, notN⟩⟩ := names
          · exact ld_glob (X := X.suite a ((a, oe) :: (X.pn ++ pins))) S gl own q notD
          · exact ld_blt (X := X.suite a ((a, oe) :: (X.pn ++ pins))) S gl none boot q notN notD
        refine test (look.here ?_)
        cases b with
        | false => exact ih (no rfl)
        | true =>
          have yes := yes rfl a gone J.len
          cases slot with
          | no =>
            refine codeAny_handlers_suite (HandSPX.lands_againZ fly fun mem4 fly4 up4 => ?_)
            have J4 : Inv X pins σ1 H1 { s1 with heap := mem4 } := J.landed away fly4.1 ((up.trans up2).trans up4) os gens
            obtain ⟨oe4, vs4, at4, is4, data4⟩ := fly4.there
            have S4 := J4.suite at4 data4 gone n1 n2
            refine wpAny_mono ((inSuite a oe4 cls d (X.pn ++ pins) is4 ⟨_, data4⟩).run [] _ _ H1 _ S4 yes) (fun fl s6 z => ?_) (fun _ _ z => z.elim)
            match fl, z with
            | .next, ⟨σ6, H6, S6, q⟩ => exact ⟨_, _, S6.unsuite ok, q⟩
            | .brk, ⟨σ6, H6, S6, q⟩ => exact ⟨_, _, S6.unsuite ok, q⟩
            | .cont, ⟨σ6, H6, S6, q⟩ => exact ⟨_, _, S6.unsuite ok, q⟩
            | .ret u, ⟨v, σ6, H6, S6, rv, q⟩ => exact ⟨_, _, _, S6.unsuite ok, rv, q⟩
          | @as n i inN loc =>
            refine codeAny_handlers_suite_as (HandSPX.lands_againZ fly fun mem4 fly4 up4 => ?_)
            have J4 : Inv X pins σ1 H1 { s1 with heap := mem4 } := J.landed away fly4.1 ((up.trans up2).trans up4) os gens
            obtain ⟨oe4, vs4, at4, is4, data4⟩ := fly4.there
            have S4 := J4.suite at4 data4 gone n1 n2
            refine store_ok (X := X.suite a ((a, oe4) :: (X.pn ++ pins))) (v := .ref a) S4 nodup inN (.inl loc) rfl (fun s5 S5 => ?_) (.inr loc)
            refine wpAny_mono ((inSuite a oe4 cls d (X.pn ++ pins) is4 ⟨_, data4⟩).run [] s5 _ H1 _ S5 yes) (fun fl s6 z => ?_) (fun _ _ z => z.elim)
            have off : ∀ {σ6 : L2.St} {H6 : Hp} {Q : Shared → Prop}, Inv (X.suite a ((a, oe4) :: (X.pn ++ pins))) [] σ6 H6 s6 → (∀ s7, Inv X pins (σ6.set i none) H6 s7 → Q s7) →
                wpAny (model X.prog X.w) X.A (do bindName X.env n .none; unbindBehindTheSuite X.env n hp) (fun _ s7 => Q s7) X.xe s6 := fun {σ6 H6 Q} S6 q => gone_ok (S6.unsuite ok) nodup inN loc q
            match fl, z with
            | .next, ⟨σ6, H6, S6, q⟩ => exact off S6 fun s7 J7 => ⟨_, _, J7, q⟩
            | .brk, ⟨σ6, H6, S6, q⟩ => exact off S6 fun s7 J7 => ⟨_, _, J7, q⟩
            | .cont, ⟨σ6, H6, S6, q⟩ => exact off S6 fun s7 J7 => ⟨_, _, J7, q⟩
            | .ret u, ⟨v, σ6, H6, S6, rv, q⟩ => exact off S6 fun s7 J7 => ⟨_, _, _, J7, rv, q⟩
    exact go cl wish
end
end FS

set_option Elab.async false
set_option linter.all false
set_option maxRecDepth 100000
set_option maxHeartbeats 4000000
/-! own errors with one field: raised; their field read and shown -/
namespace FS
open PySem PySem.Spec PyProof.Rows L2
/-- the making: self.f = y -/
def spErr (C : Addr) (f : Str) : Sp := fun vs H Q _ => ∃ (a : Addr) (y : V), vs = [.ref a, y] ∧ H a = some (exo a C none) ∧ ∀ dx, H dx = none → dx ≠ a → Q .non (upd (upd H dx (exd dx [(f, y)])) a (exo a C (some dx)))
/-- a class of errors with an own making -/
structure ErrC (P : Program) (w : World) (K : PySem.W.Frag) (mg : Str → Option Value) (base : Heap) (x : Str) (C : Addr) (f : Str) : Prop where
  ex : ∃ (newId : String) (bmB : List Value) (fI : Addr) (fd : FuncData), OexW K C newId bmB ∧ PySem.W.findIn K (.ref C) "__init__" = some (some (.ref fI)) ∧ PySem.W.typeIn K (.ref fI) = some (.type "function") ∧
    FnOk P w K mg base CX0 1 fI fd ["self", f] (spErr C f) ∧ Binds K fd ["self", f] []
  gl : mg x = some (.ref C)
  no : PySem.W.findIn K (.ref C) f = some none
/-- raise C(e) -/
def tRaiseE (C : Addr) (f : Str) (ta : TA) : L2.St → Hp → XK → Prop := fun σ H Q => ta σ H fun vs H1 => ∃ y, vs = [y] ∧ ∀ dx H', (∀ b o, H1 b = some o → H' b = some o) → H1 dx = none → H' dx = some (.xd [(f, y)]) → Q (.ref C) (some dx) H'
theorem pmk_err {X : Cx} {x f : Str} {C : Addr} {e : Expr} {ta : TA} {p pos : Pos} (G : ErrC X.prog X.w X.K X.mg X.base x C f) (hr : Room 2 X.A) (hg : Gl X x) (ha : PA X [e] ta) (hdb : (x == ("__debug__" : Str)) = false := by decide)
    (hs : starEach [e] X.env = (false, eval e X.env) :: starEach [] X.env := by rfl) (hpl : (backTo pos (starEach [] X.env)).any (·.1) = false := by rfl) : PMk X (.Call (.Name x p) [e] [] pos) (tRaiseE C f ta) := by
  intro pins s σ H Q I h
  obtain ⟨newId, bmB, fI, fd, T, own, kind, F, hb⟩ := G.ex
  refine wpAny_Call_Name_kw (ld_glob I hg G.gl ?_ hdb)
  refine PySem.W.callWith_K (h₀ := X.base) I.ok.mod.kin T.kC (thn (ha.run pos pins s σ H _ I h) fun us s1 ⟨vs, H1, I1, r1, y, ev, q1⟩ => ⟨I1.kIn, ?_⟩) hs hpl
  subst ev
  obtain ⟨B, initId, B2, bmF, FB, has, SF⟩ := T.base.ex
  obtain ⟨nm, N, qn, bs, bm, hdct, sn, sub, ab, col, dd, k0, k1, k2, k3, k5, hC, hT⟩ := PySem.W.excInit_of I1.kIn T.made
  have up : PySem.FSX.Above bm B := ⟨by rw [hT, has], by rw [hT, T.base.noA], by rw [hT, T.base.noN]⟩
  show wpAny _ _ (call (.ref C) us) _ _ _
  obtain ⟨mem, gs, dr, tk, os⟩ := s1
  have past : mem.objs.size ≤ mem.objs.size + 1 := Nat.le_succ _
  have free : H1 (mem.objs.size + 1) = none := I1.hok.fresh past
  have grow : ∀ b o, mem.get? b = some o → (PySem.FSX.laidE mem C us).get? b = some o := fun b o z => Heap.get?_push_of_some _ (Heap.get?_push_of_some _ z)
  have at_ : (PySem.FSX.laidE mem C us).get? (mem.objs.size + 1) = some (PySem.HandSPX.excO C mem.objs.size) := by
    show ((mem.push (PySem.W.kdv_tup us)).push _).get? _ = _
    heap_get
  have I2 : Inv X pins σ (upd H1 (mem.objs.size + 1) (exo (mem.objs.size + 1) C none)) ⟨PySem.FSX.laidE mem C us, gs, dr, tk, os⟩ := I1.laid (t' := tk) grow past (exo_ok at_)
  have r2 : Vals (V.ref (mem.objs.size + 1) :: [y]) (Value.ref (mem.objs.size + 1) :: us) := .cons rfl r1
  have told : spErr C f (V.ref (mem.objs.size + 1) :: [y]) (upd H1 (mem.objs.size + 1) (exo (mem.objs.size + 1) C none))
      (fun v H2 => v = .non ∧ ∃ d, H1 d = none ∧ d ≠ mem.objs.size + 1 ∧ H2 = upd (upd (upd H1 (mem.objs.size + 1) (exo (mem.objs.size + 1) C none)) d (exd d [(f, y)])) (mem.objs.size + 1) (exo (mem.objs.size + 1) C (some d))) E0 :=
    ⟨_, y, rfl, upd_same, fun d nd ne => ⟨rfl, d, by rw [upd_ne ne] at nd; exact nd, ne, rfl⟩⟩
  have len : (Value.ref (mem.objs.size + 1) :: us ++ []).length = (["self", f] : List Str).length := by
    rw [List.append_nil, ← r2.length]
    rfl
  have short : us.length ≤ sizeLine := by
    rw [← Paired.length r1]
    exact (show 1 ≤ sizeLine by decide)
  have bind := hb _ (Value.ref (mem.objs.size + 1) :: us) I2.kIn len
  rw [List.append_nil] at bind
  have run := F.run _ X.stack _ _ ⟨Value.ref (mem.objs.size + 1) :: us, []⟩ _ _ _ E0 (hr.make C us []) (I2.env0.make C us []) bind r2 told
  refine wpAny_call (PySem.FSX.made_call FB up hC (PySem.W.looks_findIn I1.kIn own) (fun self => PySem.W.bind_fn I1.kIn self kind) short (codeAny_mono run fun r s' z => ?_))
  match r, z with
  | .error er, z => exact z.elim
  | .ok .next, z => exact z.elim
  | .ok .brk, z => exact z.elim
  | .ok .cont, z => exact z.elim
  | .ok (.ret u), ⟨v, H2, os2, bare2, un2, hok2, rv, ev, d, nd, ne, eH⟩ =>
    subst ev
    obtain ⟨h2, g2, d2, t2, os'⟩ := s'
    have ea : H2 (mem.objs.size + 1) = some (exo (mem.objs.size + 1) C (some d)) := by rw [eH]; exact upd_same
    have ed : H2 d = some (exd d [(f, y)]) := by rw [eH, upd_ne ne]; exact upd_same
    refine ⟨rv, mk_end (raises_own T.exC T.tyC) I1 past grow un2 hok2 os2 bare2 ea ed nd (q1 d _ (fun b o e => ?_) nd upd_same)⟩
    rw [upd_ne (ne_of_none e nd), del_ne (ne_of_none e free), eH, upd_ne (ne_of_none e free), upd_ne (ne_of_none e nd), upd_ne (ne_of_none e free)]
    exact e
end FS

set_option Elab.async false
set_option linter.all false
set_option maxRecDepth 100000
set_option maxHeartbeats 4000000
/-! a lambda handed on: two errors are told by a word each, a third by its field, which is shown -/
namespace FS
open PySem PySem.Spec PyProof.Rows L2 LamX
theorem call_reprU {X : Cx} (gd : X.A.guards = some []) (hs : ∃ mm, X.base.Ns sysModules mm) (hu : X.A.units + 64 < cLine) : CallR X (.builtin "repr") (fun xs H Q => ∃ v d, xs = [v] ∧ Dq X.K H v d ∧ d.showable = true ∧ d.shown.length ≤ sizeLine ∧ d.depth ≤ 60 ∧ Q (.str d.shown) H) := by
  intro pins s σ H xs us Q I r h
  obtain ⟨v, d, rfl, hd, sh, sz, dp, q⟩ := h
  obtain ⟨u, rfl, t⟩ := vals1 r
  have hu : X.A.units + (d.depth + 1) < cLine := by omega
  obtain ⟨as, rd, no⟩ := Dq.reads I hs d hd t
  have ns : d.hasDict = true → sysModules ∉ as := fun _ => no
  cases rd with
  | none => exact PySem.P.repr_of_none ⟨.str _, H, I.tok _, ⟨_, rfl⟩, q⟩
  | bool b => exact PySem.P.repr_of_bool ⟨.str _, H, I.tok _, ⟨_, rfl⟩, q⟩
  | int i tk => exact PySem.P.repr_of_int (by simpa [PyData.showable] using sh) ⟨.str _, H, I.tok _, ⟨_, rfl⟩, q⟩
  | str x tk => exact PySem.P.repr_of_str ⟨.str _, H, I.tok _, ⟨_, rfl⟩, q⟩ sz
  | list h1 h2 h3 h4 => exact repr_of_reads' (.list h1 h2 h3 h4) sh ns gd hu (fun _ _ e => e) (fun h' u tk kp => ⟨.str _, H, I.kept kp, ⟨_, rfl⟩, q⟩) sz
  | tuple h1 h2 h3 h4 => exact repr_of_reads' (.tuple h1 h2 h3 h4) sh ns gd hu (fun _ _ e => e) (fun h' u tk kp => ⟨.str _, H, I.kept kp, ⟨_, rfl⟩, q⟩) sz
  | dict h1 h2 h3 h4 h5 => exact repr_of_reads' (.dict h1 h2 h3 h4 h5) sh ns gd hu (fun _ _ e => e) (fun h' u tk kp => ⟨.str _, H, I.kept kp, ⟨_, rfl⟩, q⟩) sz
/-- small enough to be shown behind a word -/
def smallD (d : PyData) : Bool := d.showable && (decide (d.shown.length ≤ 1000) && decide (d.depth ≤ 60))
def TShown (K : PySem.W.Frag) (C1 C2 C3 : Addr) (z1 z2 z3 z4 f : Str) : (XK → Hp → VK → Prop) → Hp → VK → Prop := fun tl H Q =>
  tl (fun cls d H1 => ∃ b, PySem.W.exmOne K cls (.ref C1) = some b ∧ (b = true → Q (.str z1) H1) ∧ (b = false → ∃ b, PySem.W.exmOne K cls (.ref C2) = some b ∧ (b = true → Q (.str z2) H1) ∧ (b = false →
    PySem.W.exmOne K cls (.ref C3) = some true ∧ cls = .ref C3 ∧ ∃ dd y x, d = some dd ∧ H1 dd = some (.xd [(f, y)]) ∧ Dq K H1 y x ∧ smallD x = true ∧ Q (.str (z3 ++ x.shown)) H1))) H (fun _ H1 => Q (.str z4) H1)
end FS

set_option Elab.async false
set_option linter.all false
set_option maxRecDepth 100000
set_option maxHeartbeats 4000000
namespace SQ
open PySem PySem.Spec PyProof.Rows L2 LamX FS
abbrev N_law_met : List Str := ["_law_call", "e"]
theorem sc_law_met : FnScope N_law_met ["_law_call"] (defScope s_law_met) := ⟨rfl, rfl, rfl, by decide +kernel, rfl, by decide +kernel, by decide +kernel⟩
theorem met_body {X : Cx} {q : Str} {g C1 C2 C3 : Addr} {cdg : Value} (at1 : X.mg "InvalidMeaning" = some (.ref C1)) (at2 : X.mg "InvalidOperation" = some (.ref C2)) (at3 : X.mg "InvalidNumber" = some (.ref C3)) (atr : X.mg "repr" = none)
    (T : XfC X.K C3) (no : PySem.W.findIn X.K (.ref C3) "value" = some none) (gd : X.A.guards = some []) (hs : ∃ mm, X.base.Ns sysModules mm) (hu : X.A.units + 70 < cLine) :
    GivesTo X N_law_met "_law_met" (defScope s_law_met) g cdg (defBody s_law_met) "_law_call" q (TShown X.K C1 C2 C3 "meaning" "operation" "number " "" "value") := by
  intro b c1 s H Q tl called code told
  let Y : Cx := (cxOf C8.CX0 X.prog X.w X.K X.mg X.base N_law_met "_law_met" (defScope s_law_met) g cdg X.A X.stack s H C8.E0).nox
  have un : X.A.units + 3 + 64 < cLine := by omega
  refine ⟨_, pss_cons (ps_try_named (X := Y) (tb := fun W D σ H1 => ∃ Z : XK, (∀ cls d σ1 H2, Z cls d H2 → W cls d σ1 H2) ∧ σ[0]? = some (some (.ref b)) ∧ H1 c1 = some (CodeO c1 q) ∧ tl Z H1 (fun _ H2 => D.nx σ H2)) rfl rfl (show N_law_met.Nodup by decide +kernel) LamX.takes0 ?inTry
    (.cons (k := ⟨.ref C1, none, _⟩) ⟨rfl, by decide +kernel, .inl at1⟩ .no (fun _ _ _ _ _ _ _ => pss_one (ps_ret pe_str)) (.cons (k := ⟨.ref C2, none, _⟩) ⟨rfl, by decide +kernel, .inl at2⟩ .no (fun _ _ _ _ _ _ _ => pss_one (ps_ret pe_str))
      (.cons (k := ⟨.ref C3, some 1, fun a cls d => tRet (tOp (fun x y H Q => ∃ i j, x = V.str i ∧ y = V.str j ∧ i.length + j.length ≤ sizeLine ∧ Q (V.str (i ++ j)) H) (tC (V.str "number ")) (tCB (fun xs H Q => ∃ v d, xs = [v] ∧ Dq X.K H v d ∧ d.showable = true ∧ d.shown.length ≤ sizeLine ∧ d.depth ≤ 60 ∧ Q (V.str d.shown) H) (tCons (tXf a cls d C3 "value" (tVar 1)) tNil)))⟩) ⟨rfl, by decide +kernel, .inl at3⟩ (.as rfl rfl) (fun a oe cls d pn hz hf => pss_one (ps_ret (pe_op op_add_str pe_str (pe_callB (call_reprU (X := Y.suite a ((a, oe) :: pn)) gd hs un) (by rfl) atr (by decide +kernel) (pa_cons (pe_xf (X := Y) T no hz hf (pv 1)) pa_nil))))) .nil))))
    (pss_one (ps_ret pe_str)), ?told⟩
  case inTry =>
    intro W pn xe takes _
    refine ⟨fun pins s1 σ H1 D I hz => ?_⟩
    obtain ⟨Z, up, z1, z2, z3⟩ := hz
    exact (pss_one (ps_expr (called W pn xe Z _ _ takes up))).run pins s1 σ H1 D I ⟨z1, z2, z3⟩
  case told =>
    refine ⟨_, ?_, rfl, code, told⟩
    intro cls d σ1 H2 hw
    obtain ⟨b1, x1, y1, n1⟩ := hw
    refine ⟨b1, x1, fun h _ _ _ => y1 h, fun h => ?_⟩
    obtain ⟨b2, x2, y2, n2⟩ := n1 h
    refine ⟨b2, x2, fun h _ _ _ => y2 h, fun h => ?_⟩
    obtain ⟨x3, rfl, dd, y, x, rfl, at_, dq, sm, q⟩ := n2 h
    refine ⟨true, x3, fun _ a _ len => ?_, fun z => nomatch z⟩
    obtain ⟨sm1, sm⟩ := Bool.and_eq_true_iff.mp sm
    obtain ⟨sm2, sm3⟩ := Bool.and_eq_true_iff.mp sm
    have sm2 := of_decide_eq_true sm2
    match σ1, len with
    | [u0, u1], _ =>
      refine ⟨_, rfl, rfl, rfl, dd, _, y, rfl, at_, lkH, y, x, rfl, dq, sm1, Nat.le_trans sm2 (by decide), of_decide_eq_true sm3, _, _, rfl, rfl, ?_, q⟩
      exact Nat.le_trans (Nat.add_le_add_left sm2 _) (by decide +kernel)
end SQ

set_option Elab.async false
set_option linter.all false
set_option maxRecDepth 100000
set_option maxHeartbeats 6400000
/-! len(set(a tuple of equal tuples of ints)) -/
namespace SQ
open PySem PySem.Spec PyProof.Rows L2
def tLenSetD (K : PySem.W.Frag) (ta : TE) : TE := fun σ H Q => ta σ H fun x H1 => ∃ (l : Addr) (ks : List (Addr × List Int)) (z : List Int), x = V.ref l ∧ SqT K H1 l (ks.map fun p => V.ref p.1) ∧ (∀ p ∈ ks, SqT K H1 p.1 (p.2.map V.int) ∧ p.2 = z) ∧ ks ≠ [] ∧ ks.length < 64 ∧ Q (.int 1) H1
theorem got_one {ks L : List (Addr × List Int)} {z : List Int} (g : L2.Got ks ks.length L) (all : ∀ p ∈ ks, p.2 = z) (ne : ks ≠ []) (nl : (L.map (·.2)).Nodup) : L.length = 1 := by
  have e : ks.take ks.length = ks := List.take_length
  match L, g, nl with
  | [], g, _ =>
    obtain ⟨p, r, rfl⟩ := List.exists_cons_of_ne_nil ne
    have := g.all p (by rw [e]; exact .head _)
    exact nomatch this
  | [_], _, _ => rfl
  | a :: b :: r, g, nl =>
    have ha := all a (by have := g.sub a (.head _); rwa [e] at this)
    have hb := all b (by have := g.sub b (.tail _ (.head _)); rwa [e] at this)
    have n := (List.nodup_cons.mp nl).1
    exact absurd (show a.2 ∈ (b :: r).map (·.2) by rw [ha, ← hb]; exact .head _) n
theorem pe_lenSetD {X : Cx} {a : Expr} {ta : TE} {p p2 q pos : Pos} (hc : X.calm = true) (hu : X.A.units + 64 < cLine) (hg : Gl X "len") (hm : X.mg "len" = none) (hg2 : Gl X "set") (hm2 : X.mg "set" = none) (ha : PE X a ta)
    (na : starEach [a] X.env = (false, eval a X.env) :: starEach [] X.env := by rfl) : PE X (.Call (.Name "len" p) [.Call (.Name "set" p2) [a] [] q] [] pos) (tLenSetD X.K ta) := by
  refine ⟨fun pins s σ H Q I h => ?_⟩
  refine Call_ (ld_blt I hg hm PySem.boot_len ?_)
  refine PyProof.Rows.callWith_builtin1 (PyProof.Rows.args_cons ?_ rfl) rfl rfl
  refine Call_ (ld_blt I hg2 hm2 PyProof.Rows.boot_set ?_)
  refine PyProof.Rows.callWith_type1 (PyProof.Rows.args_cons (thn (ha.run pins s σ H _ I h) fun v s1 ⟨x, H1, I1, r1, q1⟩ => PyProof.Rows.args_nil ?_) na) na rfl
  obtain ⟨l, ks, z, rfl, hq, hk, ne, h1, q1⟩ := q1
  cases r1
  obtain ⟨its, rv, pl, hz⟩ := I1.tuple hq
  refine made (P := X.prog) (w := X.w) (ks := ks) (I1.ok.hd hc) pl (by simpa using refs_of_vals rv) (fun p hp => I1.isT (hk p hp).1) h1 (by omega) fun h' tk L es ep t R g k => ?_
  refine PyProof.Rows.args_nil ?_
  have hL := got_one g (fun p hp => (hk p hp).2) ne R.nd
  have I2 : Inv X pins σ H1 { s1 with heap := h', toks := tk } := I1.kept fun b o e => k b o e
  obtain ⟨o, ho, hex, hd⟩ := R.ob
  refine call_len_set ho hex hd (SetTR.fits (s := { s1 with heap := h', toks := tk }) R) (by rw [SetTR.size (s := { s1 with heap := h', toks := tk }) R, hL]; decide) ⟨.int 1, H1, I2.tok _, ⟨_, by rw [SetTR.size (s := { s1 with heap := h', toks := tk }) R, hL]; rfl⟩, q1⟩
end SQ

set_option Elab.async false
set_option linter.all false
set_option maxRecDepth 100000
set_option maxHeartbeats 4000000
/-! what is refused -/
namespace SQ
open PySem PySem.Spec PyProof.Rows L2 FS
/-- an own error without an own making -/
structure BadE (K : PySem.W.Frag) (mg : Str → Option Value) (x : Str) (C : Addr) : Prop where
  g : mg x = some (.ref C)
  k : PySem.W.keepIn K (.ref C) = true
  xI : PySem.W.excIn K C [.type "ValueError", .type "Exception", .type "BaseException", .type "object"] "ValueError.__new__" = true
  b : PySem.W.subIn K (.ref C) (.type "BaseException") = some true
  t : PySem.W.typeIn K (.ref C) = some (.type "type")
/-- never called -/
def spNo : Sp := fun _ _ _ _ => False
def EN (CN : Addr) (E : XK) (v : V) (H : Hp) : Prop := ∀ dx H', Same H H' → H dx = none → H' dx = some (.xd [("value", v)]) → E (.ref CN) (some dx) H'
def EM (C : Addr) (E : XK) (H : Hp) : Prop := ∀ H', Same H H' → E (.ref C) none H'
abbrev szB (m : Nat) (b : Bool) : Int := (2 ^ (m * en m b) : Nat) - 1
def spChkA (C CN : Addr) (K : PySem.W.Frag) : Sp := fun vs H Q E => ∃ (p : Addr) (m : Nat) (b : Bool) (v : V), vs = [.ref p, v] ∧ SpAt C H p m b ∧ Pl K H v ∧ (inB 0 (szB m b) v = true → Q .non H) ∧ (inB 0 (szB m b) v = false → EN CN E v H)
def spPairsX (C CN : Addr) (K : PySem.W.Frag) : Sp := fun vs H Q E => ∃ (p : Addr) (m : Nat) (b : Bool) (v : V), vs = [.ref p, v] ∧ SpAt C H p m b ∧ Pl K H v ∧ inB 0 (szB m b) v = false ∧ EN CN E v H
def spTwoX (C CN : Addr) (K : PySem.W.Frag) : Sp := fun vs H Q E => ∃ (p : Addr) (m : Nat) (b : Bool) (v u : V), vs = [.ref p, v, u] ∧ SpAt C H p m b ∧ Pl K H v ∧ Pl K H u ∧ ((inB 0 (szB m b) v = false ∧ EN CN E v H) ∨ (inB 0 (szB m b) v = true ∧ inB 0 (szB m b) u = false ∧ EN CN E u H))
/-- whether v is a table -/
def IsT (K : PySem.W.Frag) (H : Hp) (v : V) (m : Nat) (b r : Bool) : Prop :=
  (∃ t xs, v = .ref t ∧ SqT K H t xs ∧ (∀ x ∈ xs, Atm x) ∧ xs.length ≤ 5000 ∧ r = (decide (xs.length = 2 ^ (m * en m b)) && xs.all (inB 0 (szB m b)))) ∨ (NoT H v ∧ r = false)
theorem NoT.same {H H' : Hp} {v : V} (h : NoT H v) (s : Same H H') : NoT H' v := by
  cases h with
  | non => exact .non
  | int i => exact .int i
  | lst e => exact .lst (s _ _ e)
  | dct e => exact .dct (s _ _ e)
theorem IsT.same {K : PySem.W.Frag} {H H' : Hp} {v : V} {m : Nat} {b r : Bool} (h : IsT K H v m b r) (s : Same H H') : IsT K H' v m b r := by
  rcases h with ⟨t, xs, e, sq, z⟩ | ⟨n, e⟩
  · exact .inl ⟨t, xs, e, Same.sqT s sq, z⟩
  · exact .inr ⟨n.same s, e⟩
def spChkTX (C CM : Addr) (K : PySem.W.Frag) : Sp := fun vs H Q E => ∃ (p : Addr) (m : Nat) (b : Bool) (v : V) (r : Bool), vs = [.ref p, v] ∧ SpAt C H p m b ∧ IsT K H v m b r ∧ (r = true → ∀ H', Same H H' → Q .non H') ∧ (r = false → EM CM E H)
def spMonoX (C CM : Addr) (K : PySem.W.Frag) : Sp := fun vs H Q E => ∃ (p : Addr) (m : Nat) (b : Bool) (v : V), vs = [.ref p, v] ∧ SpAt C H p m b ∧ IsT K H v m b false ∧ EM CM E H
def spCompX (C CM : Addr) (K : PySem.W.Frag) : Sp := fun vs H Q E => ∃ (p : Addr) (m : Nat) (b : Bool) (v u : V) (r : Bool), vs = [.ref p, v, u] ∧ SpAt C H p m b ∧ IsT K H v m b r ∧ (r = true → IsT K H u m b false) ∧ EM CM E H
/-- whether v is a pair -/
inductive IsP (K : PySem.W.Frag) (H : Hp) (m e : Nat) : V → Bool → Prop
  | non : IsP K H m e .non false
  | int (i : Int) : IsP K H m e (.int i) false
  | lst {p : Addr} {xs : List V} (h : H p = some (.lst xs)) : IsP K H m e (.ref p) false
  | few {t : Addr} {xs : List V} (h : SqT K H t xs) (n : xs.length ≠ 2) (z : xs.length ≤ 100) : IsP K H m e (.ref t) false
  | two {t : Addr} {x y : V} (h : SqT K H t [x, y]) (px : Pl K H x) (py : Pl K H y) : IsP K H m e (.ref t) (inB 0 ((m : Int) - 1) x && inB 0 ((e : Int) - 1) y)
theorem Pl.same {K : PySem.W.Frag} {H H' : Hp} {v : V} (h : Pl K H v) (s : Same H H') : Pl K H' v := by
  cases h with
  | non => exact .non
  | bl b => exact .bl b
  | int i => exact .int i
  | str x => exact .str x
  | tup e => exact .tup (Same.sqT s e)
  | lst e => exact .lst (s _ _ e)
  | dct e => exact .dct (s _ _ e)
theorem IsP.same {K : PySem.W.Frag} {H H' : Hp} {m e : Nat} {v : V} {r : Bool} (h : IsP K H m e v r) (s : Same H H') : IsP K H' m e v r := by
  cases h with
  | non => exact .non
  | int i => exact .int i
  | lst h => exact .lst (s _ _ h)
  | few h n z => exact .few (Same.sqT s h) n z
  | two h px py => exact .two (Same.sqT s h) (px.same s) (py.same s)
def spIsPairX (C : Addr) (K : PySem.W.Frag) : Sp := fun vs H Q _ => ∃ (p : Addr) (m : Nat) (b : Bool) (v : V) (r : Bool), vs = [.ref p, v] ∧ SpAt C H p m b ∧ IsP K H m (en m b) v r ∧ Q (.bl r) H
/-- no pairs -/
inductive NoPs (K : PySem.W.Frag) (H : Hp) (m e : Nat) : V → Prop
  | not {v : V} (h : NoT H v) : NoPs K H m e v
  | bad {t : Addr} {xs : List V} {rs : List Bool} (h : SqT K H t xs) (few : xs.length ≤ 100) (len : rs.length = xs.length) (all : ∀ (i : Nat) (x : V) (r : Bool), xs[i]? = some x → rs[i]? = some r → IsP K H m e x r) (no : rs.all id = false) : NoPs K H m e (.ref t)
  | twice {t t1 t2 : Addr} {p : Pr} (h : SqT K H t [.ref t1, .ref t2]) (h1 : SqT K H t1 (prV p)) (h2 : SqT K H t2 (prV p)) (p1 : p.1 < m) (p2 : p.2 < e) : NoPs K H m e (.ref t)
def spRelX (C CM : Addr) (K : PySem.W.Frag) : Sp := fun vs H Q E => ∃ (p : Addr) (m : Nat) (b : Bool) (v : V), vs = [.ref p, v] ∧ SpAt C H p m b ∧ NoPs K H m (en m b) v ∧ EM CM E H
def isB : V → Bool
  | .bl _ => true
  | _ => false
def spInitX (C CN CO : Addr) (K : PySem.W.Frag) : Sp := fun vs H Q E => ∃ (p dx : Addr) (v u : V), vs = [.ref p, v, u] ∧ H p = some (.ins C dx []) ∧ Pl K H v ∧ Pl K H u ∧ ((inB 1 3 v = false ∧ EN CN E v H) ∨ (inB 1 3 v = true ∧ isB u = false ∧ EM CO E H))
structure MCalX (P : Program) (w : World) (K : PySem.W.Frag) (mg : Str → Option Value) (base : Heap) (C : Addr) (k : Nat) (x : Str) (ps : List Str) (sp : Sp) : Prop where
  ex : ∃ (f : Addr) (fd : FuncData), FnOk P w K mg base (L2.CX P w) k f fd ps sp ∧ Meth K C x f ∧ Binds K fd ps []
section
variable {X : Cx} {C : Addr} {e o : Expr} {es : List Expr} {ta : TE} {t : TA} {m : Str} {k : Nat} {ps : List Str} {sp : Sp} {pos apos : Pos} {E : XK}
theorem pe_ownMX {pl : Sem Bool} (M : MCalX X.prog X.w X.K X.mg X.base C k m ps sp) (c : Cls X.K C) (hr : Room k X.A) (hx : Passes (L2.CX X.prog X.w) X E) (ho : PE X o ta) (ha : PA X (e :: es) t) (h1 : starEach (e :: es) X.env = (false, eval e X.env) :: starEach es X.env := by rfl) (h2 : (backTo pos (starEach es X.env)).any (·.1) = false := by rfl)
    (h3 : eval (.Call (.Attribute o m apos) (e :: es) [] pos) X.env = (do
      let ov ← eval o X.env
      standAt apos.atName
      let (f, first) ← holding [ov] (getMethod ov m pl)
      callWith pos f first (backTo pos (starEach (e :: es) X.env)) (backToKw pos (keywordEach [] X.env))) := by rfl) : PE X (.Call (.Attribute o m apos) (e :: es) [] pos) (tMeth C m sp [] E ta t) := by
  obtain ⟨f, fd, q1, q2, q3⟩ := M.ex
  exact pe_meth ho c q2 q1 hr q3 .nil hx ha h1 h2 h3
end
theorem lets {P : Program} {w : World} {K : PySem.W.Frag} {mg : Str → Option Value} {base : Heap} {N : List Str} {qual : Str} {sc : Scope} {f : Addr} {cdv : Value} {A : Around} {outer : List Env} {s : Shared} {H : Hp} {E : XK} :
    Passes (L2.CX P w) (cxOf (L2.CX P w) P w K mg base N qual sc f cdv A outer s H E) E := passes_call (takes_of rfl rfl rfl rfl) (fun _ _ _ _ h => h)
end SQ

set_option Elab.async false
set_option linter.all false
set_option maxRecDepth 100000
set_option maxHeartbeats 4000000
/-! lambdas handed on: what stays, the def that calls them -/
namespace FS
open PySem PySem.Spec PyProof.Rows L2 LamX
/-- as Fun, its code object at c -/
structure FunC (K : PySem.W.Frag) (x qual : Str) (st : Stmt) (f : Addr) (fd : FuncData) (c : Addr) : Prop where
  ex : ∃ (oc : Value) (od : Option Addr) (kV doc pm : Value) (an : Option Addr) (ct : Value) (osl : Array (Option Value)), fd = PySem.W.fnOf x qual (defArgs st) (defBody st) (defScope st) .none kV doc pm an (.ref c) ct ∧
    K.lookup f = some ⟨oc, od, .func (PySem.W.fnOf x qual (defArgs st) (defBody st) (defScope st) .none kV doc pm an (.ref c) ct), osl⟩ ∧ PySem.W.codeIn K (.ref c) qual = true
section
variable {P : Program} {w : World} {K : PySem.W.Frag} {mg : Str → Option Value} {base : Heap}
theorem FunC.okG {c : Addr} {x qual : Str} {st : Stmt} {f : Addr} {fd : FuncData} {N ps : List Str} {k : Nat} {sp : Sp} (F : FunC K x qual st f fd c) (S : FnScope N ps (defScope st)) (len : ∀ vs H Q E, sp vs H Q E → vs.length = ps.length)
    (body : ∀ (A : Around) (outer : List Env) (s : Shared) (H : Hp) (vs : List V) (Q : VK) (E : XK), A.guards = some [] → Room k (A.deeper (envOfC qual (defScope st) s.heap.objs.size f (.ref c))) → sp vs H Q E →
      ∃ t, PSs (cxOf CX0 P w K mg base N qual (defScope st) f (.ref c) A outer s H E).nox (defBody st) t ∧ t { nx := fun _ H' => Q .non H', rt := Q } (start N vs) H) : FnG P w K mg base CX0 (k + 1) f fd ps sp := by
  obtain ⟨oc, od, kV, doc, pm, an, ct, osl, rfl, lk, hcd⟩ := F.ex
  refine ⟨len, fun {A outer s H args us vs Q E} g hr e0 hb r p => ?_⟩
  refine LamX.run_ofS lk hcd S hr e0 hb r (len _ _ _ _ p) fun hr' => ?_
  obtain ⟨t, h, q⟩ := body A outer s H vs Q E g hr' p
  exact ⟨t, h.nox, q⟩
end
end FS
namespace SQ
open PySem PySem.Spec PyProof.Rows L2 LamX FS
def lamQ (x : Str) : Str := (x ++ ".<locals>.") ++ "<lambda>"
def GoN (D : Addr) (H H' : Hp) : Prop := (∀ b o, b ≠ D → H b = some o → (∀ ps, o ≠ .tbl ps) → H' b = some o) ∧ Die H' D
theorem GoN.of {D : Addr} {H H' : Hp} (g : Go D H H') : GoN D H H' := ⟨fun b o n e _ => g.1 b o n e, g.2⟩
theorem GoN.trans {D : Addr} {H H1 H2 : Hp} (x : GoN D H H1) (y : GoN D H1 H2) : GoN D H H2 := ⟨fun b o n e t => y.1 b o n (x.1 b o n e t) t, y.2⟩
theorem GoN.same {D : Addr} {H H1 H2 : Hp} (x : GoN D H H1) (y : Same H1 H2) : GoN D H H2 := x.trans (.of (.of x.2 y))
theorem GoN.refl {D : Addr} {H : Hp} (d : Die H D) : GoN D H H := .of (.of d Same.rfl)
theorem GoN.ext {D : Addr} {H H' : Hp} (d : Die H D) (e : ExtN H H') : GoN D H H' := ⟨fun b o _ h n => e b o h n, by
  obtain ⟨x, y, z, h⟩ := d
  exact ⟨x, y, z, e _ _ h (fun ps z => nomatch z)⟩⟩
theorem Tabs.same {T : List (Addr × Str)} {H H' : Hp} (t : Tabs T H) (s : Same H H') : Tabs T H' := t.ext s
theorem Tabs.go {T : List (Addr × Str)} {H H' : Hp} {D : Addr} (d : Die H D) (g : Go D H H') (t : Tabs T H) : Tabs T H' := fun p hp => by
  obtain ⟨ps, h1, h2, h3⟩ := t p hp
  have nD : ∀ b o, (∀ xs, o ≠ .lst xs) → H b = some o → b ≠ D := fun b o n e => d.neT e n
  refine ⟨ps, g.1 _ _ (nD _ (.tbl ps) (fun xs z => nomatch z) h1) h1, h2, fun pos cv hc => ?_⟩
  obtain ⟨c, e1, e2⟩ := h3 pos cv hc
  exact ⟨c, e1, g.1 _ _ (nD _ _ (fun xs z => by unfold CodeO at z; cases z) e2) e2⟩
theorem SqT.extN {K : PySem.W.Frag} {H H' : Hp} {a : Addr} {xs : List V} (h : SqT K H a xs) (e : ExtN H H') : SqT K H' a xs := by
  rcases h with (h | ⟨o, h⟩) | h
  · exact .inl (.inl (e _ _ h (fun ps z => nomatch z)))
  · exact .inl (.inr ⟨o, e _ _ h (fun ps z => nomatch z)⟩)
  · exact .inr h
theorem SpAt.extN {C : Addr} {H H' : Hp} {p : Addr} {m : Nat} {b : Bool} (h : SpAt C H p m b) (e : ExtN H H') : SpAt C H' p m b := ⟨h.1, by
  obtain ⟨dx, q⟩ := h.2
  exact ⟨dx, e _ _ q (fun ps z => nomatch z)⟩⟩
theorem Pl.extN {K : PySem.W.Frag} {H H' : Hp} {v : V} (h : Pl K H v) (e : ExtN H H') : Pl K H' v := by
  cases h with
  | non => exact .non
  | bl b => exact .bl b
  | int i => exact .int i
  | str x => exact .str x
  | tup q => exact .tup (SqT.extN q e)
  | lst q => exact .lst (e _ _ q (fun ps z => nomatch z))
  | dct q => exact .dct (e _ _ q (fun ps z => nomatch z))
theorem NoT.extN {H H' : Hp} {v : V} (h : NoT H v) (e : ExtN H H') : NoT H' v := by
  cases h with
  | non => exact .non
  | int i => exact .int i
  | lst q => exact .lst (e _ _ q (fun ps z => nomatch z))
  | dct q => exact .dct (e _ _ q (fun ps z => nomatch z))
theorem IsT.extN {K : PySem.W.Frag} {H H' : Hp} {v : V} {m : Nat} {b r : Bool} (h : IsT K H v m b r) (s : ExtN H H') : IsT K H' v m b r := by
  rcases h with ⟨t, xs, e, sq, z⟩ | ⟨n, e⟩
  · exact .inl ⟨t, xs, e, SqT.extN sq s, z⟩
  · exact .inr ⟨n.extN s, e⟩
theorem IsP.extN {K : PySem.W.Frag} {H H' : Hp} {m e : Nat} {v : V} {r : Bool} (h : IsP K H m e v r) (s : ExtN H H') : IsP K H' m e v r := by
  cases h with
  | non => exact .non
  | int i => exact .int i
  | lst h => exact .lst (s _ _ h (fun ps z => nomatch z))
  | few h n z => exact .few (SqT.extN h s) n z
  | two h px py => exact .two (SqT.extN h s) (px.extN s) (py.extN s)
theorem NoPs.extN {K : PySem.W.Frag} {H H' : Hp} {m e : Nat} {v : V} (h : NoPs K H m e v) (s : ExtN H H') : NoPs K H' m e v := by
  cases h with
  | not h => exact .not (h.extN s)
  | bad h few len all no => exact .bad (SqT.extN h s) few len (fun i x r a b => (all i x r a b).extN s) no
  | twice h h1 h2 p1 p2 => exact .twice (SqT.extN h s) (SqT.extN h1 s) (SqT.extN h2 s) p1 p2
/-- the law's def that calls what it is handed -/
structure MetK (P : Program) (w : World) (K : PySem.W.Frag) (mg : Str → Option Value) (base : Heap) (CM CO CN : Addr) : Prop where
  ex : ∃ (g : Addr) (oc : Value) (od : Option Addr) (kV doc pm : Value) (an : Option Addr) (cdv ct : Value) (osl : Array (Option Value)),
    mg "_law_met" = some (.ref g) ∧ PySem.W.keepIn K (.ref g) = true ∧
    K.lookup g = some ⟨oc, od, .func (PySem.W.fnOf "_law_met" "_law_met" (defArgs s_law_met) (defBody s_law_met) (defScope s_law_met) .none kV doc pm an cdv ct), osl⟩ ∧ PySem.W.codeIn K cdv "_law_met" = true ∧
    L2.Binds K (PySem.W.fnOf "_law_met" "_law_met" (defArgs s_law_met) (defBody s_law_met) (defScope s_law_met) .none kV doc pm an cdv ct) ["_law_call"] []
  at1 : mg "InvalidMeaning" = some (.ref CM)
  at2 : mg "InvalidOperation" = some (.ref CO)
  at3 : mg "InvalidNumber" = some (.ref CN)
  atr : mg "repr" = none
  no : PySem.W.findIn K (.ref CN) "value" = some none
  xf : XfC K CN
  hs : ∃ mm, base.Ns sysModules mm
abbrev tlMet (K : PySem.W.Frag) (CM CO CN : Addr) := TShown K CM CO CN "meaning" "operation" "number " "" "value"
theorem pe_met {X : Cx} {CM CO CN c Pt : Addr} {k : Nat} {T : List (Addr × Str)} {params : Arguments} {body : Expr} {scope : Scope} {t : XK → TE} {p lpos pos : Pos}
    (M : MetK X.prog X.w X.K X.mg X.base CM CO CN) (gd : X.A.guards = some []) (hg : Gl X "_law_met") (TB : TabB X.base X.mg c Pt) (hcode : X.env.code = .ref c)
    (hmT : (Pt, X.env.qual ++ "<lambda>") ∈ T) (hu : ∀ p ∈ T, p.1 = Pt → p.2 = X.env.qual ++ "<lambda>") (hr : Room (k + 2) X.A) (hu70 : X.A.units + 70 < cLine) (L : LamS X.env.scope scope) (hdef : defaultsOf params X.env = ([], []))
    (hbind : ∀ (q : Str) (cl : List (Str × Addr)) (pm cv ctv : Value), bindArgs (PySem.W.kla_fn "<lambda>" q params body scope cl pm cv ctv) ⟨[], []⟩ = pure [])
    (hbody : ∀ (A : Around) (outer : List Env) (s : Shared) (H : Hp) (E : XK) (f c1 : Addr), Room k (A.deeper (lamEnv X scope s.heap.objs.size f c1)) → PE (lamCx X A outer s H E scope f c1) body (t E)) :
    PE X (.Call (.Name "_law_met" p) [.Lambda params body scope lpos] [] pos) (tLam T (tlMet X.K CM CO CN) t) := by
  obtain ⟨g, oc, od, kV, doc, pm, an, cdv, ct, osl, m1, m2, m3, m4, m5⟩ := M.ex
  exact pe_lamcall hg m1 m2 m3 m4 m5 sc_law_met rfl (.inl rfl) (met_body M.at1 M.at2 M.at3 M.atr M.xf M.no gd M.hs hu70) TB hcode hmT hu hr L hdef hbind hbody
/-- a class method called in a lambda's body, its error let out -/
theorem lam_lets {X : Cx} {A : Around} {outer : List Env} {s : Shared} {H : Hp} {E : XK} {scope : Scope} {f c1 : Addr} : Passes (L2.CX (lamCx X A outer s H E scope f c1).prog (lamCx X A outer s H E scope f c1).w) (lamCx X A outer s H E scope f c1) E :=
  passes_call (takes_of rfl rfl rfl rfl) (fun _ _ _ _ h => h)
/-- Space(..) of what is no count of modes, or with a watch that is none -/
structure SpX (P : Program) (w : World) (K : PySem.W.Frag) (mg : Str → Option Value) (base : Heap) (C CN CO : Addr) : Prop where
  c : SpC K mg C
  ini : ∃ (f : Addr) (fd : FuncData), FnOk P w K mg base (L2.CX P w) 3 f fd ["self", "modes", "watched"] (spInitX C CN CO K) ∧ Mk K C f ∧ (∃ ds, Vals [V.bl false] ds ∧ Binds K fd ["self", "modes", "watched"] ds) ∧ KBn K fd ["self", "modes", "watched"] 2 ["watched"] (fun us ws => us ++ ws) (fun vs zs => vs ++ zs)
section
variable {X : Cx} {C CN CO : Addr} {e : Expr} {kws : List Keyword} {t tk : TA} {p pos : Pos} {E : XK}
theorem pe_mkX (G : SpX X.prog X.w X.K X.mg X.base C CN CO) (hr : Room 4 X.A) (hx : Passes (L2.CX X.prog X.w) X E) (hg : Gl X "Space") (ha : PA X [e] t) (he : starEach [e] X.env = (false, eval e X.env) :: starEach [] X.env := by rfl) (hpl : (backTo pos (starEach [] X.env)).any (·.1) = false := by rfl) :
    PE X (.Call (.Name "Space" p) [e] [] pos) (tMake C (spInitX C CN CO X.K) [.bl false] E t) := by
  obtain ⟨f, fd, h1, h2, ⟨ds, r, b⟩, _⟩ := G.ini
  exact pe_make h2 h1 hr hg G.c.gC b r hx ha (by decide) he hpl
theorem pe_mkXW (G : SpX X.prog X.w X.K X.mg X.base C CN CO) (hr : Room 4 X.A) (hx : Passes (L2.CX X.prog X.w) X E) (hg : Gl X "Space") (ha : PA X [e] t) (hkw : PK X kws tk) (hall : (backToKw pos (keywordEach kws X.env)).all (·.1.isSome) = true := by rfl) (hks : (backToKw pos (keywordEach kws X.env)).filterMap (·.1) = ([("watched" : Str)] : List Str) := by rfl)
    (he : starEach [e] X.env = (false, eval e X.env) :: starEach [] X.env := by rfl) (hpl : ((backTo pos (starEach [e] X.env)).any (·.1) || (backToKw pos (keywordEach kws X.env)).any (·.1.isNone)) = false := by rfl) :
    PE X (.Call (.Name "Space" p) [e] kws pos) (tMakeK C 1 1 (spInitX C CN CO X.K) (fun vs zs => vs ++ zs) E t tk) := by
  obtain ⟨f, fd, h1, h2, _, kb⟩ := G.ini
  exact pe_makeK h2 h1 hr hg G.c.gC kb hx ha hkw hall hks (by decide) he hpl
/-- a good one -/
structure SpG (P : Program) (w : World) (K : PySem.W.Frag) (mg : Str → Option Value) (base : Heap) (C : Addr) : Prop where
  c : SpC K mg C
  ini : ∃ (f : Addr) (fd : FuncData), FnOk P w K mg base CX0 3 f fd ["self", "modes", "watched"] (spInit C) ∧ Mk K C f ∧ KBn K fd ["self", "modes", "watched"] 2 ["watched"] (fun us ws => us ++ ws) (fun vs zs => vs ++ zs)
theorem pe_mkGW (G : SpG X.prog X.w X.K X.mg X.base C) (hr : Room 4 X.A) (hg : Gl X "Space") (ha : PA X [e] t) (hkw : PK X kws tk) (hall : (backToKw pos (keywordEach kws X.env)).all (·.1.isSome) = true := by rfl) (hks : (backToKw pos (keywordEach kws X.env)).filterMap (·.1) = ([("watched" : Str)] : List Str) := by rfl)
    (he : starEach [e] X.env = (false, eval e X.env) :: starEach [] X.env := by rfl) (hpl : ((backTo pos (starEach [e] X.env)).any (·.1) || (backToKw pos (keywordEach kws X.env)).any (·.1.isNone)) = false := by rfl) :
    PE X (.Call (.Name "Space" p) [e] kws pos) (tMakeK C 1 1 (spInit C) (fun vs zs => vs ++ zs) E0 t tk) := by
  obtain ⟨f, fd, h1, h2, kb⟩ := G.ini
  exact pe_makeK h2 h1 hr hg G.c.gC kb pass0 ha hkw hall hks (by decide) he hpl
end
end SQ

set_option Elab.async false
set_option linter.all false
set_option maxRecDepth 100000
set_option maxHeartbeats 4000000
/-! k23: what is drawn -/
namespace SQ
open PySem PySem.Spec PyProof.Rows L2 LamX FS
theorem seq_gen {a r : TS} {D : Ends} {σ : L2.St} {H : Hp} {P : L2.St → Hp → Prop} (h : ∀ N : L2.St → Hp → Prop, (∀ σ' H', P σ' H' → N σ' H') → a { D with nx := N } σ H) (k : ∀ σ' H', P σ' H' → r D σ' H') : tSeq a r D σ H := h _ fun σ' H' p => k σ' H' p
theorem mulTup1 (l : Addr) (items : Array Value) (n : Nat) (dd : Option Addr) (sl : Array (Option Value)) (u : Tok) (hi : items.isEmpty = false) :
    Meets (Builtin.«tuple.__mul__» ⟨[.ref l, .int 1 u], []⟩) (fun _ R s => s.heap.get? l = some { cls := .type "tuple", dict := dd, data := .seq items n, slots := sl } ∧ R (.ok (.ret (Value.ref l))) s) :=
  .of_wp fun prog w A R s h => by
    obtain ⟨hp, g, d, tk, os⟩ := s
    obtain ⟨hl, h⟩ := h
    have f1 := AutoSeq1.idx_int
    wp_walk using AutoSeq1.wpAny_loadPart' hl
    repeat (first
      | (refine wpAny_ite_false (by decide) ?_; wp_walk using AutoSeq1.wpAny_loadPart' hl)
      | (refine wpAny_ite_true (by rw [hi]; decide) ?_; wp_walk using AutoSeq1.wpAny_loadPart' hl)
      | (refine wpAny_ite_true (by decide) ?_; wp_walk using AutoSeq1.wpAny_loadPart' hl))
    exact ⟨_, rfl, h⟩
/-- one thing, many times -/
def rRepB (K : PySem.W.Frag) : R2 := fun x y H Q => ∃ (l : Addr) (k : Nat) (z : V), x = .ref l ∧ y = .int (k : Int) ∧ SqT K H l [z] ∧ 1 ≤ k ∧ k ≤ 5000 ∧ ∀ p H', Same H H' → SqT K H' p (List.replicate k z) → Q (.ref p) H'
theorem flat_one {z : V} : ∀ k : Nat, (List.replicate k [z]).flatten = List.replicate k z
  | 0 => rfl
  | k + 1 => by rw [List.replicate_succ, List.flatten_cons, flat_one k]; rfl
section
variable {X : Cx}
theorem op_repB : OpR X (binaryOp .Mult) (rRepB X.K) := by
  intro pins s σ H x y v u Q I rx ry h
  obtain ⟨l, k, z, rfl, rfl, hT, hk1, hk, q⟩ := h
  cases rx
  obtain ⟨t, rfl⟩ := ry
  obtain ⟨its, r, ⟨⟨cls, dd, data, sl⟩, ho, hc, n, hd⟩, hs⟩ := I.tuple hT
  simp only at hc hd
  subst hc hd
  have hle : its.length = 1 := r.length.symm
  have hi : its.toArray.isEmpty = false := by
    cases its with
    | nil => cases hle
    | cons a b => rfl
  by_cases h2 : 2 ≤ k
  · have hsz0 : its.toArray.size = 1 := by rw [List.size_toArray, hle]
    have flen : (List.replicate k its).flatten.length ≤ sizeLine := by
      rw [PyProof.Rows.lm_len_rep_flat, hle, sizeLine_eq]
      omega
    have kk : ((k : Int)).toNat = k := by omega
    have c0 : (decide ((k : Int) < -(2 ^ 63)) || decide ((k : Int) ≥ 2 ^ 63)) = false := by
      rw [decide_eq_false (by omega), decide_eq_false (by omega)] <;> rfl
    have c1 : (its.toArray.isEmpty || (k : Int) == 1) = false := by
      rw [hi, Bool.false_or]
      exact beq_eq_false_iff_ne.mpr (by omega)
    have c2 : (decide ((k : Int) ≤ 0) || its.toArray.isEmpty) = false := by
      rw [hi, Bool.or_false]
      exact decide_eq_false (by omega)
    have c4 : Builtin.Tuple.tupleTooMany (((its.toArray.size : Nat) : Int) * (k : Int)) = false := by
      unfold Builtin.Tuple.tupleTooMany
      rw [sizeLine_eq]
      exact decide_eq_false (by rw [hsz0]; omega)
    refine wpAny_binaryOp_repeat_ref (T := "tuple") (U := "int") (by decide) ⟨_, ho, rfl⟩ (fun s' => typeIs_int s' _ t) noFill_tuple_mul F.fills_int_mul F.slot_int_rmul repeat_tuple F.slot_int_index.lookup
      (call_meets F.slot_int_rmul (typeIs_int s _ t) F.entry_int_rmul (F.args_int_rmul_2 _ _) (int_rmul_tuple _ t l its.toArray n dd sl)
        ⟨ho, rfl, ⟨_, ho, rfl⟩, call_meets F.slot_tuple_mul ⟨_, ho, rfl⟩ F.entry_tuple_mul (F.args_tuple_mul_2 _ _) (tuple_mulW l its.toArray n dd sl _ t c0 c1 c2 (by rw [hsz0]; omega) c4 (by rw [size_rep, List.size_toArray, kk]; exact flen)) ⟨ho, ?_⟩⟩)
    rw [size_rep, kk]
    have np : H s.heap.objs.size = none := I.hok.fresh (Nat.le_refl _)
    refine ⟨.ref s.heap.objs.size, _, I.laid (t' := s.toks) (o := .tup (List.replicate k [z]).flatten) (fun b ob q => Heap.get?_push_of_some _ q) (Nat.le_refl _) ?_, rfl, q _ _ (same_upd np) (.inl (.inl (by rw [upd_same, flat_one])))⟩
    exact ⟨by rw [PyProof.Rows.lm_len_rep_flat, sizeLine_eq]; simp only [List.length_cons, List.length_nil]; omega, _, r.rep k, IsTup.new _ _⟩
  · have k1 : k = 1 := by omega
    subst k1
    refine wpAny_binaryOp_repeat_ref (T := "tuple") (U := "int") (by decide) ⟨_, ho, rfl⟩ (fun s' => typeIs_int s' _ t) noFill_tuple_mul F.fills_int_mul F.slot_int_rmul repeat_tuple F.slot_int_index.lookup
      (call_meets F.slot_int_rmul (typeIs_int s _ t) F.entry_int_rmul (F.args_int_rmul_2 _ _) (int_rmul_tuple _ t l its.toArray n dd sl)
        ⟨ho, rfl, ⟨_, ho, rfl⟩, call_meets F.slot_tuple_mul ⟨_, ho, rfl⟩ F.entry_tuple_mul (F.args_tuple_mul_2 _ _) (mulTup1 l its.toArray n dd sl t hi) ⟨ho, ?_⟩⟩)
    exact ⟨.ref l, H, I, rfl, q l H Same.rfl hT⟩
end
/-! ### values -/
/-- a value that is shown -/
inductive OV (K : PySem.W.Frag) (H : Hp) : V → PyData → Prop
  | non : OV K H .non .none
  | bl (b : Bool) : OV K H (.bl b) (.bool b)
  | int (i : Int) : OV K H (.int i) (.int i)
  | str (x : Str) : OV K H (.str x) (.str x)
  | tup0 {t : Addr} (h : SqT K H t []) : OV K H (.ref t) (.tuple [])
  | tup {t : Addr} {i : Int} (h : SqT K H t [.int i]) : OV K H (.ref t) (.tuple [.int i])
  | lst {p : Addr} (h : H p = some (.lst [])) : OV K H (.ref p) (.list [])
  | dct {p : Addr} (h : H p = some (.dK [])) : OV K H (.ref p) (.dict [])
section
variable {K : PySem.W.Frag} {H H' : Hp} {D : Addr} {v : V} {d : PyData}
theorem OV.dq (h : OV K H v d) : Dq K H v d := by
  cases h with
  | non => exact .non
  | bl b => exact .bl b
  | int i => exact .int i
  | str x => exact .str x
  | tup0 h => exact .tup h .nil
  | tup h => exact .tup h (.cons (.int _) .nil)
  | lst h => exact .lst h .nil
  | dct h => exact .dct h
theorem OV.pl (h : OV K H v d) : Pl K H v := by
  cases h with
  | non => exact .non
  | bl b => exact .bl b
  | int i => exact .int i
  | str x => exact .str x
  | tup0 h => exact .tup h
  | tup h => exact .tup h
  | lst h => exact .lst h
  | dct h => exact .dct h
theorem OV.extN (h : OV K H v d) (e : ExtN H H') : OV K H' v d := by
  cases h with
  | non => exact .non
  | bl b => exact .bl b
  | int i => exact .int i
  | str x => exact .str x
  | tup0 h => exact .tup0 (SqT.extN h e)
  | tup h => exact .tup (SqT.extN h e)
  | lst h => exact .lst (e _ _ h (fun ps z => nomatch z))
  | dct h => exact .dct (e _ _ h (fun ps z => nomatch z))
theorem OV.same (h : OV K H v d) (s : Same H H') : OV K H' v d := h.extN fun b o e _ => s b o e
theorem OV.go (h : OV K H v d) (y : Die H D) (g : Go D H H') : OV K H' v d := by
  cases h with
  | non => exact .non
  | bl b => exact .bl b
  | int i => exact .int i
  | str x => exact .str x
  | tup0 h => exact .tup0 (Go.sqT y g h)
  | tup h => exact .tup (Go.sqT y g h)
  | lst h =>
    refine .lst (g.1 _ _ (fun z => ?_) h)
    obtain ⟨a, b, c, e⟩ := y
    rw [z, e] at h
    cases h
  | dct h => exact .dct (g.1 _ _ (y.neT h (fun xs z => by cases z)) h)
/-- small enough, its text too -/
def okD (d : PyData) : Bool := smallD d && PyData.strOk ("number " ++ d.shown)
/-- what is drawn: shown, and of a kind -/
structure Odw (K : PySem.W.Frag) (H : Hp) (p : V → Bool) (v : V) (d : PyData) : Prop where
  o : OV K H v d
  s : okD d = true
  p : p v = true
theorem Odw.same {p : V → Bool} (h : Odw K H p v d) (s : Same H H') : Odw K H' p v d := ⟨h.o.same s, h.s, h.p⟩
theorem Odw.extN {p : V → Bool} (h : Odw K H p v d) (s : ExtN H H') : Odw K H' p v d := ⟨h.o.extN s, h.s, h.p⟩
theorem Odw.go {p : V → Bool} (h : Odw K H p v d) (y : Die H D) (g : Go D H H') : Odw K H' p v d := ⟨h.o.go y g, h.s, h.p⟩
theorem ExtN.of (s : Same H H') : ExtN H H' := fun b o e _ => s b o e
theorem ExtN.tr {H1 H2 H3 : Hp} (a : ExtN H1 H2) (b : ExtN H2 H3) : ExtN H1 H3 := fun x o e n => b x o (a x o e n) n
theorem ExtN.upd {L : Addr} {o : HO} (a : ExtN H H') (n : ∀ o, H L = some o → ∃ ps, o = .tbl ps) : ExtN H (upd H' L o) := fun b x e nt => by
  by_cases z : b = L
  · subst z
    obtain ⟨ps, rfl⟩ := n _ e
    exact absurd rfl (nt ps)
  · rw [upd_ne z]
    exact a b x e nt
theorem ExtN.new {L : Addr} (a : ExtN H H') (n : H' L = none) : ∀ o, H L = some o → ∃ ps, o = .tbl ps := fun o e => Classical.byContradiction fun no => by
  have := a L o e (fun ps z => no ⟨ps, z⟩)
  rw [n] at this
  cases this
theorem Tabs.put {T : List (Addr × Str)} {L : Addr} {xs ys : List V} (t : Tabs T H) (h : H L = some (.lst xs)) : Tabs T (upd H L (.lst ys)) := fun p hp => by
  obtain ⟨ps, h1, h2, h3⟩ := t p hp
  have nL : ∀ b o, (∀ xs, o ≠ .lst xs) → H b = some o → b ≠ L := fun b o n e z => by
    rw [z, h] at e
    exact n _ (Option.some.inj e).symm
  refine ⟨ps, by rw [upd_ne (nL _ (.tbl ps) (fun xs z => nomatch z) h1)]; exact h1, h2, fun pos cv hc => ?_⟩
  obtain ⟨c, e1, e2⟩ := h3 pos cv hc
  exact ⟨c, e1, by rw [upd_ne (nL _ _ (fun xs z => by unfold CodeO at z; cases z) e2)]; exact e2⟩
end
def spRightM (T : List (Addr × Str)) : Sp := fun vs H Q _ => ∃ (D : Addr), vs = [.ref D] ∧ Die H D ∧ Tabs T H ∧ ∀ H', GoN D H H' → Tabs T H' → Q (.bl true) H'
def spLawM (T : List (Addr × Str)) (K : PySem.W.Frag) : Sp := fun vs H Q _ => ∃ (a : Addr) (ns : List Int), vs = [.ref a] ∧ SqL K H a (ns.map V.int) ∧ ns.length ≤ 63 ∧ Tabs T H ∧ ∀ H', Q (.bl true) H'
theorem u70 {k : Nat} {A : Around} (r : L2.Room k A) : A.units + 70 < cLine := by
  have := r.un
  omega
section
variable {X : Cx} {P : Program} {w : World} {K : PySem.W.Frag} {mg : Str → Option Value} {base : Heap} {C CN CO : Addr} {e : Expr} {kws : List Keyword} {t tk : TA} {p pos : Pos} {E : XK}
theorem pe_mkXK (G : SpX P w K mg base C CN CO) (h1 : X.prog = P) (h2 : X.w = w) (h3 : X.K = K) (h4 : X.mg = mg) (h5 : X.base = base) (hr : Room 4 X.A) (hx : Passes (L2.CX X.prog X.w) X E) (hg : Gl X "Space") (ha : PA X [e] t) (he : starEach [e] X.env = (false, eval e X.env) :: starEach [] X.env := by rfl) (hpl : (backTo pos (starEach [] X.env)).any (·.1) = false := by rfl) :
    PE X (.Call (.Name "Space" p) [e] [] pos) (tMake C (spInitX C CN CO K) [.bl false] E t) := by
  subst h1 h2 h3 h4 h5
  exact pe_mkX G hr hx hg ha he hpl
theorem pe_mkXWK (G : SpX P w K mg base C CN CO) (h1 : X.prog = P) (h2 : X.w = w) (h3 : X.K = K) (h4 : X.mg = mg) (h5 : X.base = base) (hr : Room 4 X.A) (hx : Passes (L2.CX X.prog X.w) X E) (hg : Gl X "Space") (ha : PA X [e] t) (hkw : PK X kws tk) (hall : (backToKw pos (keywordEach kws X.env)).all (·.1.isSome) = true := by rfl) (hks : (backToKw pos (keywordEach kws X.env)).filterMap (·.1) = ([("watched" : Str)] : List Str) := by rfl)
    (he : starEach [e] X.env = (false, eval e X.env) :: starEach [] X.env := by rfl) (hpl : ((backTo pos (starEach [e] X.env)).any (·.1) || (backToKw pos (keywordEach kws X.env)).any (·.1.isNone)) = false := by rfl) :
    PE X (.Call (.Name "Space" p) [e] kws pos) (tMakeK C 1 1 (spInitX C CN CO K) (fun vs zs => vs ++ zs) E t tk) := by
  subst h1 h2 h3 h4 h5
  exact pe_mkXW G hr hx hg ha hkw hall hks he hpl
end
def isNo : V → Bool := fun v => !(inB 1 3 v)
def isBadW : V → Bool := fun v => !(isB v)
def isOdd (m : Nat) (b : Bool) : V → Bool := fun v => !(inB 0 (szB m b) v)
theorem sub1 {N : Nat} (h : 1 ≤ N) : (N : Int) - 1 = ((N - 1 : Nat) : Int) := by omega
theorem inB_top (n : Nat) : inB 0 ((n : Int) - 1) (.int (n : Int)) = false := by
  show (decide ((0 : Int) ≤ n) && decide ((n : Int) ≤ n - 1)) = false
  rw [decide_eq_false (show ¬ (n : Int) ≤ n - 1 by omega), Bool.and_false]
theorem odd_top {m : Nat} {b : Bool} : isOdd m b (.int ((2 ^ (m * en m b) : Nat) : Int)) = true := by
  show (!(inB 0 (((2 ^ (m * en m b) : Nat) : Int) - 1) _)) = true
  rw [inB_top]
  rfl
theorem odd_big {m : Nat} {b : Bool} (mm : 1 ≤ m ∧ m ≤ 3) : isOdd m b (.int ((10 : Int) ^ ((30 : Int).toNat))) = true := by
  have h := size_le (b := b) mm
  show (!(decide ((0 : Int) ≤ (10 : Int) ^ ((30 : Int).toNat)) && decide ((10 : Int) ^ ((30 : Int).toNat) ≤ ((2 ^ (m * en m b) : Nat) : Int) - 1))) = true
  generalize 2 ^ (m * en m b) = N at h
  have e : (10 : Int) ^ ((30 : Int).toNat) = 1000000000000000000000000000000 := by decide +kernel
  rw [e, decide_eq_false (show ¬ (1000000000000000000000000000000 : Int) ≤ (N : Int) - 1 by omega), Bool.and_false]
  rfl
theorem small_top {m : Nat} {b : Bool} (mm : 1 ≤ m ∧ m ≤ 3) : okD (.int ((2 ^ (m * en m b) : Nat) : Int)) = true := by
  obtain ⟨h1, h2⟩ := mm
  rcases (show m = 1 ∨ m = 2 ∨ m = 3 by omega) with rfl | rfl | rfl <;> cases b <;> decide +kernel
theorem IsP.twoF {K : PySem.W.Frag} {H : Hp} {m e : Nat} {t : Addr} {x y : V} (h : SqT K H t [x, y]) (px : Pl K H x) (py : Pl K H y) (z : (inB 0 ((m : Int) - 1) x && inB 0 ((e : Int) - 1) y) = false) : IsP K H m e (.ref t) false := z ▸ .two h px py
theorem NoPs.one {K : PySem.W.Frag} {H : Hp} {m e : Nat} {t : Addr} {x : V} (h : SqT K H t [x]) (p : IsP K H m e x false) : NoPs K H m e (.ref t) :=
  .bad (rs := [false]) h (by simp) rfl (fun i y r hx hr => by
    match i, hx, hr with
    | 0, hx, hr =>
      cases hx
      cases hr
      exact p) rfl
theorem NoPs.duo {K : PySem.W.Frag} {H : Hp} {m e : Nat} {t : Addr} {x y : V} (h : SqT K H t [x, y]) (p : IsP K H m e x false) (p2 : IsP K H m e y false) : NoPs K H m e (.ref t) :=
  .bad (rs := [false, false]) h (by simp) rfl (fun i y r hx hr => by
    match i, hx, hr with
    | 0, hx, hr =>
      cases hx
      cases hr
      exact p
    | 1, hx, hr =>
      cases hx
      cases hr
      exact p2) rfl
theorem isT_len {K : PySem.W.Frag} {H : Hp} {m : Nat} {b : Bool} {t : Addr} {xs : List V} (h : SqT K H t xs) (a : ∀ x ∈ xs, Atm x) (few : xs.length ≤ 5000) (ne : xs.length ≠ 2 ^ (m * en m b)) : IsT K H (.ref t) m b false :=
  .inl ⟨t, xs, rfl, h, a, few, by rw [decide_eq_false ne]; rfl⟩
theorem isT_last {K : PySem.W.Frag} {H : Hp} {m : Nat} {b : Bool} {t : Addr} {xs : List V} {x : V} (h : SqT K H t (xs ++ [x])) (a : ∀ x ∈ xs, Atm x) (a1 : Atm x) (few : xs.length < 5000) (no : inB 0 (szB m b) x = false) : IsT K H (.ref t) m b false :=
  .inl ⟨t, xs ++ [x], rfl, h, fun y hy => by
    rcases List.mem_append.mp hy with z | z
    · exact a y z
    · rw [List.mem_singleton.mp z]
      exact a1, by rw [List.length_append]; exact few, by rw [List.all_append, List.all_cons, no, Bool.false_and, Bool.and_false, Bool.and_false]⟩
theorem isT_zero {K : PySem.W.Frag} {H : Hp} {m : Nat} {b : Bool} {t : Addr} (mm : 1 ≤ m ∧ m ≤ 3) (h : SqT K H t (List.replicate (2 ^ (m * en m b)) (.int 0))) : IsT K H (.ref t) m b true :=
  .inl ⟨t, _, rfl, h, fun x hx => .inr (.inr ⟨0, List.eq_of_mem_replicate hx⟩), by rw [List.length_replicate]; exact Nat.le_trans (size_le mm) (by decide), by
    rw [List.length_replicate, decide_eq_true rfl, Bool.true_and]
    refine (List.all_eq_true.mpr fun x hx => ?_).symm
    rw [List.eq_of_mem_replicate hx]
    have p : 1 ≤ 2 ^ (m * en m b) := Nat.one_le_two_pow
    generalize hN : 2 ^ (m * en m b) = N at p
    show (decide ((0 : Int) ≤ 0) && decide ((0 : Int) ≤ ((2 ^ (m * en m b) : Nat) : Int) - 1)) = true
    rw [hN, decide_eq_true (by omega), decide_eq_true (by omega)]
    rfl⟩
theorem atm_rep {k : Nat} : ∀ x ∈ List.replicate k (V.int 0), Atm x := fun x hx => .inr (.inr ⟨0, List.eq_of_mem_replicate hx⟩)
/-- where the error goes that a lambda lets out -/
def wMet (K : PySem.W.Frag) (CM CO CN : Addr) (Q : VK) : XK := fun cls d H1 => ∃ b, PySem.W.exmOne K cls (.ref CM) = some b ∧ (b = true → Q (.str "meaning") H1) ∧ (b = false → ∃ b, PySem.W.exmOne K cls (.ref CO) = some b ∧ (b = true → Q (.str "operation") H1) ∧ (b = false →
    PySem.W.exmOne K cls (.ref CN) = some true ∧ cls = .ref CN ∧ ∃ dd y x, d = some dd ∧ H1 dd = some (.xd [("value", y)]) ∧ Dq K H1 y x ∧ smallD x = true ∧ Q (.str ("number " ++ x.shown)) H1))
structure Apart (K : PySem.W.Frag) (CM CO CN : Addr) : Prop where
  MM : PySem.W.exmOne K (.ref CM) (.ref CM) = some true
  OM : PySem.W.exmOne K (.ref CO) (.ref CM) = some false
  OO : PySem.W.exmOne K (.ref CO) (.ref CO) = some true
  NM : PySem.W.exmOne K (.ref CN) (.ref CM) = some false
  NO : PySem.W.exmOne K (.ref CN) (.ref CO) = some false
  NN : PySem.W.exmOne K (.ref CN) (.ref CN) = some true
section
variable {K : PySem.W.Frag} {CM CO CN : Addr} {Q : VK} {H1 : Hp}
theorem Apart.wM {d : Option Addr} (a : Apart K CM CO CN) (q : Q (.str "meaning") H1) : wMet K CM CO CN Q (.ref CM) d H1 := ⟨true, a.MM, fun _ => q, fun z => nomatch z⟩
theorem Apart.wO {d : Option Addr} (a : Apart K CM CO CN) (q : Q (.str "operation") H1) : wMet K CM CO CN Q (.ref CO) d H1 := ⟨false, a.OM, (fun z => nomatch z), fun _ => ⟨true, a.OO, fun _ => q, fun z => nomatch z⟩⟩
theorem Apart.wN {dx : Addr} {p : V → Bool} {v : V} {d : PyData} (a : Apart K CM CO CN) (o : Odw K H1 p v d) (at_ : H1 dx = some (.xd [("value", v)])) (q : Q (.str ("number " ++ d.shown)) H1) : wMet K CM CO CN Q (.ref CN) (some dx) H1 :=
  ⟨false, a.NM, (fun z => nomatch z), fun _ => ⟨false, a.NO, (fun z => nomatch z), fun _ => ⟨a.NN, rfl, dx, v, d, rfl, at_, o.o.dq, (Bool.and_eq_true_iff.mp o.s).1, q⟩⟩⟩
theorem okD.len {d : PyData} (h : okD d = true) : d.showable = true ∧ d.shown.length ≤ 1000 ∧ d.depth ≤ 60 ∧ PyData.strOk ("number " ++ d.shown) = true := by
  obtain ⟨h, k⟩ := Bool.and_eq_true_iff.mp h
  obtain ⟨h1, h⟩ := Bool.and_eq_true_iff.mp h
  obtain ⟨h2, h3⟩ := Bool.and_eq_true_iff.mp h
  exact ⟨h1, of_decide_eq_true h2, of_decide_eq_true h3, k⟩
end
theorem no_of {a b : Int} {v : V} (h : (!(inB a b v)) = true) : inB a b v = false := by
  cases e : inB a b v with
  | false => rfl
  | true =>
    rw [e] at h
    cases h
theorem isB_of {v : V} (h : isBadW v = true) : isB v = false := by
  cases e : isB v with
  | false => rfl
  | true =>
    unfold isBadW at h
    rw [e] at h
    cases h
theorem modes_in {m : Nat} (mm : 1 ≤ m ∧ m ≤ 3) : inB 1 3 (.int (m : Int)) = true := by
  show (decide ((1 : Int) ≤ m) && decide ((m : Int) ≤ 3)) = true
  rw [decide_eq_true (by omega), decide_eq_true (by omega)]
  rfl
theorem last_in {m : Nat} {b : Bool} : inB 0 (szB m b) (.int (((2 ^ (m * en m b) : Nat) : Int) - 1)) = true := by
  have p : 1 ≤ 2 ^ (m * en m b) := Nat.one_le_two_pow
  show (decide ((0 : Int) ≤ ((2 ^ (m * en m b) : Nat) : Int) - 1) && decide (((2 ^ (m * en m b) : Nat) : Int) - 1 ≤ ((2 ^ (m * en m b) : Nat) : Int) - 1)) = true
  generalize 2 ^ (m * en m b) = N at p
  rw [decide_eq_true (by omega), decide_eq_true (by omega)]
  rfl
theorem made_same {C x dx : Addr} {H : Hp} (nx : H x = none) (ndx : H dx = none) : Same H (upd (upd H dx (.own x)) x (.ins C dx [])) := mk_same nx ndx fun _ _ _ e => e
/-- strings that are told -/
theorem dps_str {K : PySem.W.Frag} {H : Hp} : ∀ xs : List Str, DpAll K H (xs.map V.str) (xs.map PyData.str)
  | [] => .nil
  | x :: r => .cons (.str x) (dps_str r)
theorem lay_strs : ∀ {xs : List Str}, (∀ x ∈ xs, PyData.strOk x = true) → PyData.canLayAll0 (xs.map PyData.str) = true
  | [], _ => rfl
  | x :: r, h => by
    show (PyData.strOk x && PyData.canLayAll0 (r.map PyData.str)) = true
    rw [h x (.head _), lay_strs fun y hy => h y (.tail _ hy)]
    rfl
theorem deep_strs : ∀ xs : List Str, PyData.depthAll (xs.map PyData.str) = 0
  | [] => rfl
  | x :: r => by
    show max _ (PyData.depthAll (r.map PyData.str)) = 0
    rw [deep_strs r]
    rfl
theorem shaped_strs {xs : List Str} (h : ∀ x ∈ xs, PyData.strOk x = true) : SeqAt.shaped (.list (xs.map PyData.str)) = true := by
  unfold SeqAt.shaped
  rw [show PyData.canLay0 (.list (xs.map PyData.str)) = true from lay_strs h, show PyData.depth (.list (xs.map PyData.str)) = _ from congrArg (· + 1) (deep_strs xs)]
  rfl
theorem tsh_use {K : PySem.W.Frag} {CM CO CN : Addr} {tl : XK → Hp → VK → Prop} {H : Hp} {Q : VK} {w : Str} (h : ∀ N : VK, (∀ H2, Same H H2 → N (.str w) H2) → tl (wMet K CM CO CN N) H (fun _ H1 => N (.str "") H1)) (k : ∀ H2, Same H H2 → Q (.str w) H2) : TShown K CM CO CN "meaning" "operation" "number " "" "value" tl H Q := h Q k
theorem SqL.extN {K : PySem.W.Frag} {H H' : Hp} {b : Addr} {xs : List V} (h : SqL K H b xs) (e : ExtN H H') : SqL K H' b xs := by
  rcases h with (h | ⟨o, h⟩) | h
  · exact .inl (.inl (e _ _ h (fun ps z => nomatch z)))
  · exact .inl (.inr ⟨o, e _ _ h (fun ps z => nomatch z)⟩)
  · exact .inr h
end SQ

set_option Elab.async false
set_option linter.all false
set_option maxRecDepth 100000
set_option maxHeartbeats 4000000
namespace SQ
open PySem PySem.Spec PyProof.Rows L2 FS
section
variable {P : Program} {w : World} {K : PySem.W.Frag} {mg : Str → Option Value} {base : Heap}
abbrev NInvalidNumberI : List Str := ["self", "value"]
theorem scInvalidNumberI : FnScope NInvalidNumberI ["self", "value"] (defScope sInvalidNumber__init__) := ⟨rfl, rfl, rfl, by decide +kernel, rfl, by decide +kernel, by decide +kernel⟩
theorem ok_InvalidNumberI {f : Addr} {fd : FuncData} (F : Fun K "__init__" "InvalidNumber.__init__" sInvalidNumber__init__ f fd) {C : Addr} {newId : String} {bmB : List Value} (T : OexW K C newId bmB) (no : PySem.W.findIn K (.ref C) "value" = some none) : FnOk P w K mg base CX0 1 f fd ["self", "value"] (spErr C "value") := by
  refine F.ok scInvalidNumberI (fun vs H Q E h => ?_) (fun cdv A outer s H vs Q E hr h => ?_)
  · obtain ⟨a, y, rfl, _⟩ := h
    rfl
  · obtain ⟨a, y, rfl, ea, q⟩ := h
    refine ⟨_, pss_one (ps_fst (newId := newId) (bmB := bmB) (pv 0) (pv 1)), ?_⟩
    exact ⟨_, rfl, _, rfl, a, C, rfl, T, no, ea, fun dx n ne => q dx n ne⟩
theorem never {k : Nat} {f : Addr} {fd : FuncData} {ps : List Str} : FnOk P w K mg base CX0 k f fd ps spNo := ⟨fun _ _ _ _ h => h.elim, fun _ _ _ _ _ _ _ _ _ _ _ _ _ h => h.elim⟩
theorem exm_is {R S : Addr} {r : Bool} (b : PySem.W.subIn K (.ref S) (.type "BaseException") = some true) (i : PySem.W.isClsIn K S = true) (t : PySem.W.typeIn K (.ref S) = some (.type "type")) (s : PySem.W.subIn K (.ref R) (.ref S) = some r) : PySem.W.exmOne K (.ref R) (.ref S) = some r := by
  unfold PySem.W.exmOne
  rw [if_pos (by rw [b]; rfl)]
  have h2 : ((PySem.W.clsIn K S).isSome && PySem.W.typeIn K (.ref S) == some (.type "type")) = true := by
    rw [show (PySem.W.clsIn K S).isSome = true from i, t] <;> rfl
  show (if ((PySem.W.clsIn K S).isSome && PySem.W.typeIn K (.ref S) == some (.type "type")) = true then PySem.W.subIn K (.ref R) (.ref S) else none) = some r
  rw [if_pos h2]
  exact s
end
end SQ

set_option Elab.async false
set_option linter.all false
set_option maxRecDepth 100000
set_option maxHeartbeats 4000000
namespace SQ
open PySem PySem.Spec PyProof.Rows L2
section
variable {P : Program} {w : World} {K : PySem.W.Frag} {mg : Str → Option Value} {base : Heap}
abbrev N_law_one : List Str := ["_law_urn_here", "_law_items"]
theorem sc_law_one : FnScope N_law_one ["_law_urn_here", "_law_items"] (defScope s_law_one) := ⟨rfl, rfl, rfl, by decide +kernel, rfl, by decide +kernel, by decide +kernel⟩
theorem ok_l_one {f : Addr} {fd : FuncData} (F : Fun K "_law_one" "_law_one" s_law_one f fd) (T : Nm mg) (Cl_take : Cal P w K mg base 1 "_law_take" ["_law_urn_here", "_law_total"] spTake) : FnOk P w K mg base CX0 2 f fd ["_law_urn_here", "_law_items"] (spOne K) := by
  have nd := sc_law_one.nd
  refine F.ok sc_law_one (fun vs H Q E h => ?_) (fun cdv A outer s H vs Q E hr h => ?_)
  · obtain ⟨a, b, xs, di, rfl, sq, ne, nn, few, q⟩ := h
    rfl
  · obtain ⟨a, b, xs, di, rfl, sq, ne, nn, few, q⟩ := h
    skip
    refine ⟨_, (pss_one (ps_ret (pe_ix ix_list (pv 1) (pe_own Cl_take (hr.mono (by decide)) (by rfl) (pa_cons (pv 0) (pa_cons (pe_callB call_len (by rfl) T.b_len PySem.boot_len (pa_cons (pv 1) pa_nil)) pa_nil))) (fun _ _ => rfl)))), ?_⟩

    have hl : 0 < xs.length := List.length_pos_iff.mpr nn
    refine ⟨_, rfl, _, rfl, _, rfl, _, _, rfl, .inl ⟨_, sq, rfl⟩, a, _, rfl, di, hl, by omega, fun j H' hj g fr => ?_⟩
    refine ⟨b, xs, _, xs[j], rfl, rfl, g.seq ne sq, atI_nat (List.getElem?_eq_getElem hj), ?_⟩
    exact q _ _ (List.getElem_mem hj) g fr
end
end SQ

set_option Elab.async false
set_option linter.all false
set_option maxRecDepth 100000
set_option maxHeartbeats 4000000
namespace SQ
open PySem PySem.Spec PyProof.Rows L2
section
variable {P : Program} {w : World} {K : PySem.W.Frag} {mg : Str → Option Value} {base : Heap}
abbrev N_law_sizes : List Str := ["_law_modes", "_law_watched", "_law_ends_here"]
theorem sc_law_sizes : FnScope N_law_sizes ["_law_modes", "_law_watched"] (defScope s_law_sizes) := ⟨rfl, rfl, rfl, by decide +kernel, rfl, by decide +kernel, by decide +kernel⟩
theorem ok_l_sizes {f : Addr} {fd : FuncData} (F : Fun K "_law_sizes" "_law_sizes" s_law_sizes f fd) (T : Nm mg) : FnOk P w K mg base CX0 1 f fd ["_law_modes", "_law_watched"] (spSizes) := by
  have nd := sc_law_sizes.nd
  refine F.ok sc_law_sizes (fun vs H Q E h => ?_) (fun cdv A outer s H vs Q E hr h => ?_)
  · obtain ⟨m, b, rfl, m1, m3, q⟩ := h
    rfl
  · obtain ⟨m, b, rfl, m1, m3, q⟩ := h
    skip
    refine ⟨_, (pss_cons (ps_set (i := 2) nd rfl (Or.inl rfl) (pe_op op_addN (pv 0) (pe_callTy call_int1 (by rfl) T.b_int (by decide +kernel) (pa_cons (pv 1) pa_nil))))
  (pss_one (ps_ret (pe_lst (pa_cons (pv 2) (pa_cons (pe_ix ix_tup (pe_tup (pa_cons pe_int (pa_cons pe_int (pa_cons pe_int (pa_cons pe_int (pa_cons pe_int (pa_cons pe_int (pa_cons pe_int (pa_cons pe_int (pa_cons pe_int (pa_cons pe_int (pa_cons pe_int (pa_cons pe_int (pa_cons pe_int pa_nil)))))))))))))) (pe_op op_mulN (pv 0) (pv 2)) (fun _ _ => rfl)) pa_nil)))))), ?_⟩

    have three : m = 1 ∨ m = 2 ∨ m = 3 := by omega
    rcases three with rfl | rfl | rfl <;> cases b
    all_goals
      refine ⟨_, rfl, _, rfl, .inr ⟨_, rfl, ?_⟩⟩
      first | refine ⟨_, 1, rfl, rfl, ?_⟩ | refine ⟨_, 0, rfl, rfl, ?_⟩
      refine ⟨_, rfl, by decide, fun t nt => ?_⟩
      have s1 := same_upd (o := .tup [V.int 1, .int 2, .int 4, .int 8, .int 16, .int 32, .int 64, .int 128, .int 256, .int 512, .int 1024, .int 2048, .int 4096]) nt
      refine ⟨_, rfl, _, rfl, _, _, rfl, rfl, by decide, t, _, _, _, rfl, rfl, tupT upd_same, atI_nat (by rfl), by decide, fun l nl => ?_⟩
      refine q _ l (s1.trans (same_upd nl)) (Same.none s1 nl) upd_same
end
end SQ

set_option Elab.async false
set_option linter.all false
set_option maxRecDepth 100000
set_option maxHeartbeats 4000000
namespace SQ
open PySem PySem.Spec PyProof.Rows L2
section
variable {P : Program} {w : World} {K : PySem.W.Frag} {mg : Str → Option Value} {base : Heap}
abbrev N_law_take : List Str := ["_law_urn_here", "_law_total", "_law_found", "_law_one_here", "_law_two", "_law_three"]
theorem sc_law_take : FnScope N_law_take ["_law_urn_here", "_law_total"] (defScope s_law_take) := ⟨rfl, rfl, rfl, by decide +kernel, rfl, by decide +kernel, by decide +kernel⟩
theorem ok_l_take {f : Addr} {fd : FuncData} (F : Fun K "_law_take" "_law_take" s_law_take f fd) (T : Nm mg) : FnOk P w K mg base CX0 1 f fd ["_law_urn_here", "_law_total"] (spTake) := by
  have nd := sc_law_take.nd
  refine F.ok sc_law_take (fun vs H Q E h => ?_) (fun cdv A outer s H vs Q E hr h => ?_)
  · obtain ⟨a, n, rfl, ⟨x, y, z, hd⟩, n0, n1, q⟩ := h
    rfl
  · obtain ⟨a, n, rfl, ⟨x, y, z, hd⟩, n0, n1, q⟩ := h
    skip
    refine ⟨_, (pss_cons (ps_if (pt_cmpR op_gt (pe_ix ix_list (pv 0) pe_int (fun _ _ => rfl)) pe_int (nomark _))
  (pss_cons (ps_set (i := 2) nd rfl (Or.inl rfl) (pe_op op_mod (pe_callTy call_int1 (by rfl) T.b_int (by decide +kernel) (pa_cons (pe_ix ix_list (pv 0) pe_int (fun _ _ => rfl)) pa_nil)) (pv 1)))
  (pss_cons (ps_asg (pe_op op_fdiv (pe_ix ix_list (pv 0) pe_int (fun _ _ => rfl)) (pv 1)) (pg_sub (pv 0) pe_int L2.set_list))
  (pss_one (ps_ret (pv 2)))))
  pss_nil)
  (pss_cons (ps_asg (pe_op op_add (pe_ix ix_list (pv 0) pe_int (fun _ _ => rfl)) pe_int) (pg_sub (pv 0) pe_int L2.set_list))
  (pss_cons (ps_set (i := 3) nd rfl (Or.inl rfl) (pe_op op_mod (pe_callTy call_int1 (by rfl) T.b_int (by decide +kernel) (pa_cons (pe_op op_add (pe_ix ix_list (pv 0) pe_int (fun _ _ => rfl)) (pe_op op_mul pe_int (pe_ix ix_list (pv 0) pe_int (fun _ _ => rfl)))) pa_nil)) pe_int))
  (pss_cons (ps_set (i := 4) nd rfl (Or.inl rfl) (pe_op op_mod (pe_callTy call_int1 (by rfl) T.b_int (by decide +kernel) (pa_cons (pe_op op_add (pe_op op_mul (pv 3) (pv 3)) (pe_op op_mul pe_int (pe_ix ix_list (pv 0) pe_int (fun _ _ => rfl)))) pa_nil)) pe_int))
  (pss_cons (ps_set (i := 5) nd rfl (Or.inl rfl) (pe_op op_mod (pe_callTy call_int1 (by rfl) T.b_int (by decide +kernel) (pa_cons (pe_op op_add (pe_op op_mul (pv 4) (pv 4)) (pv 3)) pa_nil)) pe_int))
  (pss_one (ps_ret (pe_op op_mod (pe_callTy call_int1 (by rfl) T.b_int (by decide +kernel) (pa_cons (pe_op op_fdiv (pv 5) pe_int) pa_nil)) (pv 1))))))))), ?_⟩

    have sq : SqL K H a [.int x, .int y, .int z] := .inl (.inl hd)
    have n0' : (0 : Int) < (n : Int) := by omega
    have fin : ∀ (c : Int) (H' : Hp), Go a H H' → (∀ b, b ≠ a → H' b = H b) → Q (.int (c % (n : Int))) H' := fun c H' g f => by
      have h1 := Int.emod_nonneg c (show (n : Int) ≠ 0 by omega)
      have h2 := Int.emod_lt_of_pos c n0'
      obtain ⟨k, hk⟩ := Int.eq_ofNat_of_zero_le h1
      rw [hk] at h2 ⊢
      exact q k H' (by omega) g f
    -- urn[0] > 0
    refine ⟨_, rfl, a, _, 0, _, rfl, rfl, sq, at0, _, _, rfl, rfl, _, rfl, ite2 (fun _ => ?_) (fun _ => ?_)⟩
    · refine ⟨_, rfl, a, _, 0, _, rfl, rfl, sq, at0, .inl ⟨_, rfl, ?_⟩⟩
      refine ⟨_, rfl, _, _, rfl, rfl, n0', ?_⟩
      refine ⟨_, rfl, a, _, 0, _, rfl, rfl, sq, at0, _, rfl, _, _, rfl, rfl, ⟨n0', by omega⟩, ?_⟩
      refine ⟨_, rfl, a, _, 0, 0, rfl, rfl, hd, rfl, ?_⟩
      refine ⟨_, rfl, ?_⟩
      exact fin _ _ Go.put (fun b hb => upd_ne hb)
    · refine ⟨_, rfl, a, _, 2, _, rfl, rfl, sq, at2, _, _, rfl, rfl, _, rfl, a, _, 2, 2, rfl, rfl, hd, rfl, ?_⟩
      have sq2 : SqL K (upd H a (.lst [.int x, .int y, .int (z + 1)])) a [.int x, .int y, .int (z + 1)] := .inl (.inl upd_same)
      refine ⟨_, rfl, a, _, 1, _, rfl, rfl, sq2, at1, _, rfl, a, _, 2, _, rfl, rfl, sq2, at2, _, _, rfl, rfl, .inl (by decide), _, _, rfl, rfl, .inl ⟨_, rfl, ?_⟩⟩
      refine ⟨_, _, rfl, rfl, by show (0:Int) < 2305843009213693951; decide, ?_⟩
      have b1 : (0:Int) ≤ (y + 1299709 * (z + 1)) % 2305843009213693951 := Int.emod_nonneg _ (by decide)
      have b2 : (y + 1299709 * (z + 1)) % 2305843009213693951 < 2305843009213693951 := Int.emod_lt_of_pos _ (by decide)
      generalize (y + 1299709 * (z + 1)) % 2305843009213693951 = o at b1 b2 ⊢
      refine ⟨_, rfl, _, rfl, _, _, rfl, rfl, .inl ⟨by omega, by omega⟩, _, rfl, a, _, 2, _, rfl, rfl, sq2, at2, _, _, rfl, rfl, .inl (by decide), _, _, rfl, rfl, .inl ⟨_, rfl, ?_⟩⟩
      refine ⟨_, _, rfl, rfl, by show (0:Int) < 1000000000039; decide, ?_⟩
      have c1 := Int.emod_nonneg (o * o + 7919 * (z + 1)) (show (1000000000039 : Int) ≠ 0 by decide)
      have c2 := Int.emod_lt_of_pos (o * o + 7919 * (z + 1)) (show (0 : Int) < 1000000000039 by decide)
      generalize (o * o + 7919 * (z + 1)) % 1000000000039 = t at c1 c2 ⊢
      refine ⟨_, rfl, _, rfl, _, _, rfl, rfl, .inl ⟨by omega, by omega⟩, _, rfl, _, _, rfl, rfl, .inl ⟨_, rfl, ?_⟩⟩
      refine ⟨_, _, rfl, rfl, by show (0:Int) < 998244353; decide, ?_⟩
      refine ⟨_, rfl, _, _, rfl, rfl, by constructor <;> decide, .inl ⟨_, rfl, ?_⟩⟩
      refine ⟨_, rfl, _, _, rfl, rfl, n0', ?_⟩
      exact fin _ _ Go.put (fun b hb => upd_ne hb)
end
end SQ

set_option Elab.async false
set_option linter.all false
set_option maxRecDepth 100000
set_option maxHeartbeats 4000000
namespace SQ
open PySem PySem.Spec PyProof.Rows L2 FS
section
variable {P : Program} {w : World} {K : PySem.W.Frag} {mg : Str → Option Value} {base : Heap}
abbrev N_law_right : List Str := ["_law_urn_here", "_law_modes", "_law_watched", "_law_space", "_law_sizes_here", "_law_none", "_law_bad", "_law_odd", "_law_pairs_here", "_law_table", "_law_right_here", "_law_told", "_law_due"]
theorem sc_law_right : FnScope N_law_right ["_law_urn_here"] (defScope s_law_right) := ⟨rfl, rfl, rfl, by decide +kernel, rfl, by decide +kernel, by decide +kernel⟩
theorem ok_l_right {f cF : Addr} {fd : FuncData} (F : FunC K "_law_right" "_law_right" s_law_right f fd cF) (T : Nm mg) (b_repr : mg "repr" = none) {C CM CO CN PR : Addr} {TS : List (Addr × Str)} (hs : ∃ mm, base.Ns sysModules mm) (TB : LamX.TabB base mg cF PR) (hmT : (PR, lamQ "_law_right") ∈ TS) (hu : ∀ p ∈ TS, p.1 = PR → p.2 = lamQ "_law_right") (MG : MetK P w K mg base CM CO CN) (G : SpG P w K mg base C) (GX : SpX P w K mg base C CN CO) (ap : Apart K CM CO CN) (Cl_take : Cal P w K mg base 1 "_law_take" ["_law_urn_here", "_law_total"] spTake) (Cl_one : Cal P w K mg base 2 "_law_one" ["_law_urn_here", "_law_items"] (spOne K)) (Cl_sizes : Cal P w K mg base 1 "_law_sizes" ["_law_modes", "_law_watched"] spSizes) (Mpairs : MCalX P w K mg base C 6 "pairs" ["self", "relation"] (spPairsX C CN K)) (Mrelation : MCalX P w K mg base C 5 "relation" ["self", "pairs"] (spRelX C CM K)) (Mmono : MCalX P w K mg base C 6 "is_monotone" ["self", "table"] (spMonoX C CM K)) (Mcomp : MCalX P w K mg base C 6 "composed" ["self", "one", "other"] (spCompX C CM K)) (Mfollowed : MCalX P w K mg base C 6 "followed" ["self", "one", "other"] (spTwoX C CN K)) (Meither : MCalX P w K mg base C 6 "either" ["self", "one", "other"] (spTwoX C CN K)) (Mwithin : MCalX P w K mg base C 6 "is_within" ["self", "one", "other"] (spTwoX C CN K)) (Mtable : MCal P w K mg base C 4 "is_table" ["self", "value"] (spIsTbl C K)) : FnG P w K mg base CX0 9 f fd ["_law_urn_here"] (spRightM TS) := by
  have nd := sc_law_right.nd
  refine F.okG sc_law_right (fun vs H Q E h => ?_) (fun A outer s H vs Q E gd hr h => ?_)
  · obtain ⟨D, rfl, di, tT, q⟩ := h
    rfl
  · obtain ⟨D, rfl, di, tT, q⟩ := h
    skip
    refine ⟨_, (pss_cons (ps_asg (pe_tup (pa_cons (pe_op op_add pe_int (pe_own Cl_take (hr.mono (by decide)) (by rfl) (pa_cons (pv 0) (pa_cons pe_int pa_nil)))) (pa_cons (pe_cmpR op_eq (pe_own Cl_take (hr.mono (by decide)) (by rfl) (pa_cons (pv 0) (pa_cons pe_int pa_nil))) pe_int (nomark _)) pa_nil))) (pg_tup rfl (pgs_cons (pg_name (i := 1) nd rfl (Or.inr rfl)) (pgs_cons (pg_name (i := 2) nd rfl (Or.inl rfl)) pgs_nil))))
  (pss_cons (ps_asg (pe_tup (pa_cons (pe_mkGW G (hr.mono (by decide)) (by rfl) (pa_cons (pv 1) pa_nil) (pk_cons (pv 2) pk_nil)) (pa_cons (pe_own Cl_sizes (hr.mono (by decide)) (by rfl) (pa_cons (pv 1) (pa_cons (pv 2) pa_nil))) pa_nil))) (pg_tup rfl (pgs_cons (pg_name (i := 3) nd rfl (Or.inr rfl)) (pgs_cons (pg_name (i := 4) nd rfl (Or.inr rfl)) pgs_nil))))
  (pss_cons (ps_set (i := 5) nd rfl (Or.inr rfl) (pe_own Cl_one (hr.mono (by decide)) (by rfl) (pa_cons (pv 0) (pa_cons (pe_lst (pa_cons pe_non (pa_cons pe_int (pa_cons pe_int (pa_cons (pe_un un_neg pe_int) (pa_cons pe_bl (pa_cons pe_str (pa_cons (pe_tup (pa_cons pe_int pa_nil)) (pa_cons (pe_lst pa_nil) (pa_cons pe_dnewK (pa_cons (pe_op op_powW pe_int pe_int) pa_nil))))))))))) pa_nil))))
  (pss_cons (ps_set (i := 6) nd rfl (Or.inr rfl) (pe_own Cl_one (hr.mono (by decide)) (by rfl) (pa_cons (pv 0) (pa_cons (pe_lst (pa_cons pe_non (pa_cons pe_int (pa_cons pe_int (pa_cons pe_str (pa_cons pe_str (pa_cons (pe_tup pa_nil) (pa_cons (pe_lst pa_nil) (pa_cons pe_dnewK pa_nil))))))))) pa_nil))))
  (pss_cons (ps_set (i := 7) nd rfl (Or.inr rfl) (pe_own Cl_one (hr.mono (by decide)) (by rfl) (pa_cons (pv 0) (pa_cons (pe_lst (pa_cons pe_non (pa_cons (pe_un un_neg pe_int) (pa_cons (pe_ix ix_list (pv 4) pe_int (fun _ _ => rfl)) (pa_cons pe_bl (pa_cons pe_str (pa_cons (pe_tup (pa_cons pe_int pa_nil)) (pa_cons (pe_lst pa_nil) (pa_cons pe_dnewK (pa_cons (pe_op op_powW pe_int pe_int) (pa_cons pe_bl pa_nil))))))))))) pa_nil))))
  (pss_cons (ps_set (i := 8) nd rfl (Or.inr rfl) (pe_lst (pa_cons pe_non (pa_cons pe_int (pa_cons (pe_lst pa_nil) (pa_cons (pe_lst (pa_cons (pe_tup (pa_cons pe_int (pa_cons pe_int pa_nil))) pa_nil)) (pa_cons (pe_tup (pa_cons pe_int (pa_cons pe_int pa_nil))) (pa_cons (pe_tup (pa_cons (pe_tup (pa_cons pe_int (pa_cons pe_int pa_nil))) (pa_cons (pe_tup (pa_cons pe_int (pa_cons pe_int pa_nil))) pa_nil))) (pa_cons (pe_tup (pa_cons (pe_tup (pa_cons pe_int pa_nil)) pa_nil)) (pa_cons (pe_tup (pa_cons (pe_tup (pa_cons pe_int (pa_cons pe_int (pa_cons pe_int pa_nil)))) pa_nil)) (pa_cons (pe_tup (pa_cons (pe_tup (pa_cons (pv 1) (pa_cons pe_int pa_nil))) pa_nil)) (pa_cons pe_dnewK pa_nil))))))))))))
  (pss_cons (ps_set (i := 8) nd rfl (Or.inr rfl) (pe_own Cl_one (hr.mono (by decide)) (by rfl) (pa_cons (pv 0) (pa_cons (pe_op op_cat (pv 8) (pe_lst (pa_cons (pe_tup (pa_cons (pe_tup (pa_cons pe_int (pa_cons (pe_ix ix_list (pv 4) pe_int (fun _ _ => rfl)) pa_nil))) pa_nil)) (pa_cons (pe_tup (pa_cons (pe_tup (pa_cons pe_bl (pa_cons pe_int pa_nil))) pa_nil)) (pa_cons (pe_tup (pa_cons (pe_tup (pa_cons (pe_un un_neg pe_int) (pa_cons pe_int pa_nil))) pa_nil)) (pa_cons (pe_tup (pa_cons pe_non pa_nil)) (pa_cons (pe_tup (pa_cons (pe_lst (pa_cons pe_int (pa_cons pe_int pa_nil))) pa_nil)) (pa_cons (pe_tup (pa_cons (pe_tup (pa_cons pe_str (pa_cons pe_int pa_nil))) pa_nil)) pa_nil)))))))) pa_nil))))
  (pss_cons (ps_set (i := 9) nd rfl (Or.inr rfl) (pe_own Cl_one (hr.mono (by decide)) (by rfl) (pa_cons (pv 0) (pa_cons (pe_lst (pa_cons pe_non (pa_cons pe_int (pa_cons (pe_tup pa_nil) (pa_cons (pe_op op_rep (pe_lst (pa_cons pe_int pa_nil)) (pe_ix ix_list (pv 4) pe_int (fun _ _ => rfl))) (pa_cons (pe_op op_repB (pe_tup (pa_cons pe_int pa_nil)) (pe_op op_sub (pe_ix ix_list (pv 4) pe_int (fun _ _ => rfl)) pe_int)) (pa_cons (pe_op op_catT (pe_op op_repB (pe_tup (pa_cons pe_int pa_nil)) (pe_op op_sub (pe_ix ix_list (pv 4) pe_int (fun _ _ => rfl)) pe_int)) (pe_tup (pa_cons (pe_ix ix_list (pv 4) pe_int (fun _ _ => rfl)) pa_nil))) (pa_cons pe_dnewK pa_nil)))))))) pa_nil))))
  (pss_cons (ps_set (i := 10) nd rfl (Or.inr rfl) (pe_op op_repB (pe_tup (pa_cons pe_int pa_nil)) (pe_ix ix_list (pv 4) pe_int (fun _ _ => rfl))))
  (pss_cons (ps_set (i := 11) nd rfl (Or.inl rfl) (pe_lst (pa_cons (pe_met (k := 6) MG gd (by rfl) TB rfl hmT hu (hr.mono (by decide)) (u70 hr) (LamX.lamS_by (sc := defScope s_law_right) (by decide +kernel)) rfl (fun _ _ _ _ _ => rfl) (fun A2 outer2 s2 H2 E2 f2 c2 hr2 => (pe_mkXK GX rfl rfl rfl rfl rfl (hr2.mono (by decide)) lam_lets (by rfl) (pa_cons (pv 5) pa_nil)))) pa_nil)))
  (pss_cons (ps_expr (pe_bm PySem.F.plainAttrs_list PySem.F.slot_list_append PySem.F.type_list_append mt_append (pv 11) (pa_cons (pe_met (k := 6) MG gd (by rfl) TB rfl hmT hu (hr.mono (by decide)) (u70 hr) (LamX.lamS_by (sc := defScope s_law_right) (by decide +kernel)) rfl (fun _ _ _ _ _ => rfl) (fun A2 outer2 s2 H2 E2 f2 c2 hr2 => (pe_mkXWK GX rfl rfl rfl rfl rfl (hr2.mono (by decide)) lam_lets (by rfl) (pa_cons (pv 5) pa_nil) (pk_cons (pv 6) pk_nil)))) pa_nil)))
  (pss_cons (ps_expr (pe_bm PySem.F.plainAttrs_list PySem.F.slot_list_append PySem.F.type_list_append mt_append (pv 11) (pa_cons (pe_met (k := 6) MG gd (by rfl) TB rfl hmT hu (hr.mono (by decide)) (u70 hr) (LamX.lamS_by (sc := defScope s_law_right) (by decide +kernel)) rfl (fun _ _ _ _ _ => rfl) (fun A2 outer2 s2 H2 E2 f2 c2 hr2 => (pe_mkXWK GX rfl rfl rfl rfl rfl (hr2.mono (by decide)) lam_lets (by rfl) (pa_cons (pv 1) pa_nil) (pk_cons (pv 6) pk_nil)))) pa_nil)))
  (pss_cons (ps_expr (pe_bm PySem.F.plainAttrs_list PySem.F.slot_list_append PySem.F.type_list_append mt_append (pv 11) (pa_cons (pe_met (k := 6) MG gd (by rfl) TB rfl hmT hu (hr.mono (by decide)) (u70 hr) (LamX.lamS_by (sc := defScope s_law_right) (by decide +kernel)) rfl (fun _ _ _ _ _ => rfl) (fun A2 outer2 s2 H2 E2 f2 c2 hr2 => (pe_ownMX Mpairs GX.c.cl (hr2.mono (by decide)) lam_lets (pv 3) (pa_cons (pv 7) pa_nil)))) pa_nil)))
  (pss_cons (ps_expr (pe_bm PySem.F.plainAttrs_list PySem.F.slot_list_append PySem.F.type_list_append mt_append (pv 11) (pa_cons (pe_met (k := 6) MG gd (by rfl) TB rfl hmT hu (hr.mono (by decide)) (u70 hr) (LamX.lamS_by (sc := defScope s_law_right) (by decide +kernel)) rfl (fun _ _ _ _ _ => rfl) (fun A2 outer2 s2 H2 E2 f2 c2 hr2 => (pe_ownMX Mrelation GX.c.cl (hr2.mono (by decide)) lam_lets (pv 3) (pa_cons (pv 8) pa_nil)))) pa_nil)))
  (pss_cons (ps_expr (pe_bm PySem.F.plainAttrs_list PySem.F.slot_list_append PySem.F.type_list_append mt_append (pv 11) (pa_cons (pe_met (k := 6) MG gd (by rfl) TB rfl hmT hu (hr.mono (by decide)) (u70 hr) (LamX.lamS_by (sc := defScope s_law_right) (by decide +kernel)) rfl (fun _ _ _ _ _ => rfl) (fun A2 outer2 s2 H2 E2 f2 c2 hr2 => (pe_ownMX Mmono GX.c.cl (hr2.mono (by decide)) lam_lets (pv 3) (pa_cons (pv 9) pa_nil)))) pa_nil)))
  (pss_cons (ps_expr (pe_bm PySem.F.plainAttrs_list PySem.F.slot_list_append PySem.F.type_list_append mt_append (pv 11) (pa_cons (pe_met (k := 6) MG gd (by rfl) TB rfl hmT hu (hr.mono (by decide)) (u70 hr) (LamX.lamS_by (sc := defScope s_law_right) (by decide +kernel)) rfl (fun _ _ _ _ _ => rfl) (fun A2 outer2 s2 H2 E2 f2 c2 hr2 => (pe_ownMX Mcomp GX.c.cl (hr2.mono (by decide)) lam_lets (pv 3) (pa_cons (pv 9) (pa_cons (pv 10) pa_nil))))) pa_nil)))
  (pss_cons (ps_expr (pe_bm PySem.F.plainAttrs_list PySem.F.slot_list_append PySem.F.type_list_append mt_append (pv 11) (pa_cons (pe_met (k := 6) MG gd (by rfl) TB rfl hmT hu (hr.mono (by decide)) (u70 hr) (LamX.lamS_by (sc := defScope s_law_right) (by decide +kernel)) rfl (fun _ _ _ _ _ => rfl) (fun A2 outer2 s2 H2 E2 f2 c2 hr2 => (pe_ownMX Mcomp GX.c.cl (hr2.mono (by decide)) lam_lets (pv 3) (pa_cons (pv 10) (pa_cons (pv 9) pa_nil))))) pa_nil)))
  (pss_cons (ps_set (i := 12) nd rfl (Or.inl rfl) (pe_op op_cat (pe_op op_cat (pe_op op_rep (pe_lst (pa_cons (pe_op op_add_str pe_str (pe_callB (call_reprD gd hs hr) (by rfl) b_repr (by decide +kernel) (pa_cons (pv 5) pa_nil))) pa_nil)) pe_int) (pe_lst (pa_cons pe_str (pa_cons (pe_op op_add_str pe_str (pe_callB (call_reprD gd hs hr) (by rfl) b_repr (by decide +kernel) (pa_cons (pv 7) pa_nil))) pa_nil)))) (pe_op op_rep (pe_lst (pa_cons pe_str pa_nil)) pe_int)))
  (pss_cons (ps_if (pt_cmpR (op_neD hr.units) (pv 11) (pv 12) (nomark _))
  (pss_one (ps_ret pe_bl))
  pss_nil)
  (pss_cons (ps_set (i := 11) nd rfl (Or.inl rfl) (pe_lst (pa_cons (pe_met (k := 6) MG gd (by rfl) TB rfl hmT hu (hr.mono (by decide)) (u70 hr) (LamX.lamS_by (sc := defScope s_law_right) (by decide +kernel)) rfl (fun _ _ _ _ _ => rfl) (fun A2 outer2 s2 H2 E2 f2 c2 hr2 => (pe_ownMX Mfollowed GX.c.cl (hr2.mono (by decide)) lam_lets (pv 3) (pa_cons (pv 7) (pa_cons (pv 5) pa_nil))))) pa_nil)))
  (pss_cons (ps_expr (pe_bm PySem.F.plainAttrs_list PySem.F.slot_list_append PySem.F.type_list_append mt_append (pv 11) (pa_cons (pe_met (k := 6) MG gd (by rfl) TB rfl hmT hu (hr.mono (by decide)) (u70 hr) (LamX.lamS_by (sc := defScope s_law_right) (by decide +kernel)) rfl (fun _ _ _ _ _ => rfl) (fun A2 outer2 s2 H2 E2 f2 c2 hr2 => (pe_ownMX Meither GX.c.cl (hr2.mono (by decide)) lam_lets (pv 3) (pa_cons (pv 7) (pa_cons (pv 5) pa_nil))))) pa_nil)))
  (pss_cons (ps_expr (pe_bm PySem.F.plainAttrs_list PySem.F.slot_list_append PySem.F.type_list_append mt_append (pv 11) (pa_cons (pe_met (k := 6) MG gd (by rfl) TB rfl hmT hu (hr.mono (by decide)) (u70 hr) (LamX.lamS_by (sc := defScope s_law_right) (by decide +kernel)) rfl (fun _ _ _ _ _ => rfl) (fun A2 outer2 s2 H2 E2 f2 c2 hr2 => (pe_ownMX Mwithin GX.c.cl (hr2.mono (by decide)) lam_lets (pv 3) (pa_cons (pv 7) (pa_cons (pv 5) pa_nil))))) pa_nil)))
  (pss_cons (ps_expr (pe_bm PySem.F.plainAttrs_list PySem.F.slot_list_append PySem.F.type_list_append mt_append (pv 11) (pa_cons (pe_met (k := 6) MG gd (by rfl) TB rfl hmT hu (hr.mono (by decide)) (u70 hr) (LamX.lamS_by (sc := defScope s_law_right) (by decide +kernel)) rfl (fun _ _ _ _ _ => rfl) (fun A2 outer2 s2 H2 E2 f2 c2 hr2 => (pe_ownMX Mfollowed GX.c.cl (hr2.mono (by decide)) lam_lets (pv 3) (pa_cons (pe_op op_sub (pe_ix (ix_listK (K := K) rfl) (pv 4) pe_int (fun _ _ => rfl)) pe_int) (pa_cons (pv 7) pa_nil))))) pa_nil)))
  (pss_cons (ps_expr (pe_bm PySem.F.plainAttrs_list PySem.F.slot_list_append PySem.F.type_list_append mt_append (pv 11) (pa_cons (pe_met (k := 6) MG gd (by rfl) TB rfl hmT hu (hr.mono (by decide)) (u70 hr) (LamX.lamS_by (sc := defScope s_law_right) (by decide +kernel)) rfl (fun _ _ _ _ _ => rfl) (fun A2 outer2 s2 H2 E2 f2 c2 hr2 => (pe_ownMX Meither GX.c.cl (hr2.mono (by decide)) lam_lets (pv 3) (pa_cons (pe_op op_sub (pe_ix (ix_listK (K := K) rfl) (pv 4) pe_int (fun _ _ => rfl)) pe_int) (pa_cons (pv 7) pa_nil))))) pa_nil)))
  (pss_cons (ps_expr (pe_bm PySem.F.plainAttrs_list PySem.F.slot_list_append PySem.F.type_list_append mt_append (pv 11) (pa_cons (pe_met (k := 6) MG gd (by rfl) TB rfl hmT hu (hr.mono (by decide)) (u70 hr) (LamX.lamS_by (sc := defScope s_law_right) (by decide +kernel)) rfl (fun _ _ _ _ _ => rfl) (fun A2 outer2 s2 H2 E2 f2 c2 hr2 => (pe_ownMX Mwithin GX.c.cl (hr2.mono (by decide)) lam_lets (pv 3) (pa_cons (pe_op op_sub (pe_ix (ix_listK (K := K) rfl) (pv 4) pe_int (fun _ _ => rfl)) pe_int) (pa_cons (pv 7) pa_nil))))) pa_nil)))
  (pss_cons (ps_if (pt_cmpR (op_neD hr.units) (pv 11) (pe_op op_rep (pe_lst (pa_cons (pe_op op_add_str pe_str (pe_callB (call_reprD gd hs hr) (by rfl) b_repr (by decide +kernel) (pa_cons (pv 7) pa_nil))) pa_nil)) pe_int) (nomark _))
  (pss_one (ps_ret pe_bl))
  pss_nil)
  (pss_one (ps_ret (pe_cmpR op_eq (pe_met (k := 6) MG gd (by rfl) TB rfl hmT hu (hr.mono (by decide)) (u70 hr) (LamX.lamS_by (sc := defScope s_law_right) (by decide +kernel)) rfl (fun _ _ _ _ _ => rfl) (fun A2 outer2 s2 H2 E2 f2 c2 hr2 => (pe_ownM Mtable GX.c.cl (hr2.mono (by decide)) (pv 3) (pa_cons (pv 9) pa_nil)))) pe_str (nomark _)))))))))))))))))))))))))))))), ?_⟩

    have sz0 : ∀ {n : Nat}, n ≤ 1000 → n ≤ sizeLine := fun h => Nat.le_trans h (by decide +kernel)
    -- modes and watched
    refine seq_gen (P := fun σ' H' => ∃ (m : Nat) (b : Bool), (1 ≤ m ∧ m ≤ 3) ∧ σ' = [some (.ref D), some (.int (m : Int)), some (.bl b), none, none, none, none, none, none, none, none, none, none] ∧ Go D H H') (fun N hN => ?_) ?_
    · refine ⟨_, rfl, D, 3, rfl, di, by omega, by omega, fun r1 H1 r10 g1 _ => ?_⟩
      refine ⟨_, _, rfl, rfl, ?_⟩
      refine ⟨_, rfl, D, 2, rfl, g1.2, by omega, by omega, fun r2 H2 r20 g2 _ => ⟨rfl, ?_⟩⟩
      refine ⟨by show 2 ≤ sizeLine; decide, fun p np => ?_⟩
      generalize hX : upd H2 p _ = H3
      have s3 : Same H2 H3 := by
        rw [← hX]
        exact same_upd np
      have e3 := (congrFun hX p).symm.trans upd_same
      clear hX
      refine ⟨p, _, rfl, tupT e3, rfl, _, _, rfl, _, _, rfl, rfl, ?_⟩
      have e : (1 : Int) + (r1 : Int) = ((r1 + 1 : Nat) : Int) := by omega
      exact hN _ _ ⟨r1 + 1, _, by omega, by rw [← e]; rfl, (g1.trans g2).then s3⟩
    rintro σ1 H1 ⟨m, b, mm, rfl, g1⟩
    have szl := size_le (b := b) mm
    have enl := en_le (b := b) mm
    -- the space, its sizes
    refine seq_gen (P := fun σ' H' => ∃ sp Z, σ' = [some (.ref D), some (.int (m : Int)), some (.bl b), some (.ref sp), some (.ref Z), none, none, none, none, none, none, none, none] ∧ Go D H H' ∧ SpAt C H' sp m b ∧ H' Z = some (.lst (szL m b)) ∧ Z ≠ D) (fun N hN => ?_) ?_
    · refine ⟨_, rfl, _, rfl, rfl, rfl, fun sp dx nx ndx nex => ⟨sp, dx, m, b, rfl, upd_same, mm.1, mm.2, fun H3 k3 e3 => ⟨rfl, ?_⟩⟩⟩
      have s3 := mk_same nx ndx k3
      refine ⟨_, rfl, _, rfl, m, b, rfl, mm.1, mm.2, fun H4 Z s4 nZ eZ => ?_⟩
      have nZa := ((g1.then s3).2).ne nZ
      refine ⟨by show 2 ≤ sizeLine; decide, fun t2 n2 => ?_⟩
      generalize hX : upd H4 t2 _ = H5
      have s5 : Same H4 H5 := by
        rw [← hX]
        exact same_upd n2
      have e5 := (congrFun hX t2).symm.trans upd_same
      clear hX
      refine ⟨t2, _, rfl, tupT e5, rfl, _, _, rfl, _, _, rfl, rfl, ?_⟩
      exact hN _ _ ⟨sp, Z, rfl, ((g1.then s3).then s4).then s5, ⟨mm, dx, s5 _ _ (s4 _ _ e3)⟩, s5 _ _ eZ, nZa⟩
    rintro σ2 H2 ⟨sp, Z, rfl, g2, at2, ez2, nZ⟩
    clear g1 H1
    refine seq_gen (P := fun σ' H' => ∃ vn dn, σ' = [some (.ref D), some (.int (m : Int)), some (.bl b), some (.ref sp), some (.ref Z), some vn, none, none, none, none, none, none, none] ∧ Go D H2 H' ∧ Odw K H' isNo vn dn) (fun N hN => ?_) ?_
    · have aez := ez2
      have adc := g2.2
      refine ⟨_, rfl, _, rfl, by show 1 ≤ sizeLine; decide, fun ap1 an1 => ?_⟩
      generalize hX : upd H2 ap1 _ = aH1
      have as1 : Same H2 aH1 := by
        rw [← hX]
        exact same_upd an1
      have ae1 := (congrFun hX ap1).symm.trans upd_same
      clear hX
      replace aez := as1 _ _ aez
      replace adc := adc.same as1
      refine ⟨Nat.zero_le _, fun ap2 an2 => ?_⟩
      have ad2 := adc.ne an2
      generalize hX : upd aH1 ap2 _ = aH2
      have as2 : Same aH1 aH2 := by
        rw [← hX]
        exact same_upd an2
      have ae2 := (congrFun hX ap2).symm.trans upd_same
      clear hX
      replace aez := as2 _ _ aez
      replace adc := adc.same as2
      refine fun ap3 an3 => ?_
      generalize hX : upd aH2 ap3 _ = aH3
      have as3 : Same aH2 aH3 := by
        rw [← hX]
        exact same_upd an3
      have ae3 := (congrFun hX ap3).symm.trans upd_same
      clear hX
      replace aez := as3 _ _ aez
      replace adc := adc.same as3
      refine ⟨_, _, rfl, rfl, ⟨by decide, by decide +kernel⟩, by show 10 ≤ sizeLine; decide, fun ap4 an4 => ?_⟩
      have ad4 := adc.ne an4
      generalize hX : upd aH3 ap4 _ = aH4
      have as4 : Same aH3 aH4 := by
        rw [← hX]
        exact same_upd an4
      have ae4 := (congrFun hX ap4).symm.trans upd_same
      clear hX
      replace aez := as4 _ _ aez
      replace adc := adc.same as4
      have ak4 : Same aH4 aH4 := Same.rfl
      have ak3 := as4.trans ak4
      have ak2 := as3.trans ak3
      have ak1 := as2.trans ak2
      have ak0 := as1.trans ak1
      refine ⟨D, ap4, _, adc, rfl, .inl (.inl ae4), ad4, List.cons_ne_nil _ _, by show 10 < 1000; decide, fun v HX hv gx _ => ?_⟩
      have all : ∀ v ∈ [V.non, V.int 0, V.int 4, V.int (-1), V.bl true, V.str "2", V.ref ap1, V.ref ap2, V.ref ap3, V.int ((10 : Int) ^ ((30 : Int).toNat))], ∃ d, Odw K aH4 isNo v d := fun v hv => by
        simp only [List.mem_cons, List.not_mem_nil, or_false] at hv
        rcases hv with rfl | rfl | rfl | rfl | rfl | rfl | rfl | rfl | rfl | rfl
        · exact ⟨_, .non, by decide +kernel, by decide +kernel⟩
        · exact ⟨_, .int _, by decide +kernel, by decide +kernel⟩
        · exact ⟨_, .int _, by decide +kernel, by decide +kernel⟩
        · exact ⟨_, .int _, by decide +kernel, by decide +kernel⟩
        · exact ⟨_, .bl _, by decide +kernel, by decide +kernel⟩
        · exact ⟨_, .str _, by decide +kernel, by decide +kernel⟩
        · exact ⟨_, .tup (tupT (ak1 _ _ ae1)), by decide +kernel, by rfl⟩
        · exact ⟨_, .lst (ak2 _ _ ae2), by decide +kernel, by rfl⟩
        · exact ⟨_, .dct (ak3 _ _ ae3), by decide +kernel, by rfl⟩
        · exact ⟨_, .int _, by decide +kernel, by decide +kernel⟩
      obtain ⟨d, od⟩ := all v hv
      exact hN _ _ ⟨v, d, rfl, (Go.of g2.2 ak0).trans gx, od.go adc gx⟩
    rintro σX H3 ⟨vn, dn, rfl, g3, ovn⟩
    have ez3 := g3.1 _ _ nZ ez2
    clear ez2
    refine seq_gen (P := fun σ' H' => ∃ vb db, σ' = [some (.ref D), some (.int (m : Int)), some (.bl b), some (.ref sp), some (.ref Z), some vn, some vb, none, none, none, none, none, none] ∧ Go D H3 H' ∧ Odw K H' isBadW vb db) (fun N hN => ?_) ?_
    · have bez := ez3
      have bdc := g3.2
      refine ⟨_, rfl, Nat.zero_le _, fun bp1 bn1 => ?_⟩
      generalize hX : upd H3 bp1 _ = bH1
      have bs1 : Same H3 bH1 := by
        rw [← hX]
        exact same_upd bn1
      have be1 := (congrFun hX bp1).symm.trans upd_same
      clear hX
      replace bez := bs1 _ _ bez
      replace bdc := bdc.same bs1
      refine ⟨Nat.zero_le _, fun bp2 bn2 => ?_⟩
      have bd2 := bdc.ne bn2
      generalize hX : upd bH1 bp2 _ = bH2
      have bs2 : Same bH1 bH2 := by
        rw [← hX]
        exact same_upd bn2
      have be2 := (congrFun hX bp2).symm.trans upd_same
      clear hX
      replace bez := bs2 _ _ bez
      replace bdc := bdc.same bs2
      refine fun bp3 bn3 => ?_
      generalize hX : upd bH2 bp3 _ = bH3
      have bs3 : Same bH2 bH3 := by
        rw [← hX]
        exact same_upd bn3
      have be3 := (congrFun hX bp3).symm.trans upd_same
      clear hX
      replace bez := bs3 _ _ bez
      replace bdc := bdc.same bs3
      refine ⟨by show 8 ≤ sizeLine; decide, fun bp4 bn4 => ?_⟩
      have bd4 := bdc.ne bn4
      generalize hX : upd bH3 bp4 _ = bH4
      have bs4 : Same bH3 bH4 := by
        rw [← hX]
        exact same_upd bn4
      have be4 := (congrFun hX bp4).symm.trans upd_same
      clear hX
      replace bez := bs4 _ _ bez
      replace bdc := bdc.same bs4
      have bk4 : Same bH4 bH4 := Same.rfl
      have bk3 := bs4.trans bk4
      have bk2 := bs3.trans bk3
      have bk1 := bs2.trans bk2
      have bk0 := bs1.trans bk1
      refine ⟨D, bp4, _, bdc, rfl, .inl (.inl be4), bd4, List.cons_ne_nil _ _, by show 8 < 1000; decide, fun v HX hv gx _ => ?_⟩
      have all : ∀ v ∈ [V.non, V.int 0, V.int 1, V.str "", V.str "True", V.ref bp1, V.ref bp2, V.ref bp3], ∃ d, Odw K bH4 isBadW v d := fun v hv => by
        simp only [List.mem_cons, List.not_mem_nil, or_false] at hv
        rcases hv with rfl | rfl | rfl | rfl | rfl | rfl | rfl | rfl
        · exact ⟨_, .non, by decide +kernel, by decide +kernel⟩
        · exact ⟨_, .int _, by decide +kernel, by decide +kernel⟩
        · exact ⟨_, .int _, by decide +kernel, by decide +kernel⟩
        · exact ⟨_, .str _, by decide +kernel, by decide +kernel⟩
        · exact ⟨_, .str _, by decide +kernel, by decide +kernel⟩
        · exact ⟨_, .tup0 (tupT (bk1 _ _ be1)), by decide +kernel, by rfl⟩
        · exact ⟨_, .lst (bk2 _ _ be2), by decide +kernel, by rfl⟩
        · exact ⟨_, .dct (bk3 _ _ be3), by decide +kernel, by rfl⟩
      obtain ⟨d, od⟩ := all v hv
      exact hN _ _ ⟨v, d, rfl, (Go.of g3.2 bk0).trans gx, od.go bdc gx⟩
    rintro σX H4 ⟨vb, db, rfl, g4, ovb⟩
    have ez4 := g4.1 _ _ nZ ez3
    clear ez3
    refine seq_gen (P := fun σ' H' => ∃ vo do_, σ' = [some (.ref D), some (.int (m : Int)), some (.bl b), some (.ref sp), some (.ref Z), some vn, some vb, some vo, none, none, none, none, none] ∧ Go D H4 H' ∧ Odw K H' (isOdd m b) vo do_) (fun N hN => ?_) ?_
    · have cez := ez4
      have cdc := g4.2
      refine ⟨_, rfl, _, rfl, _, rfl, Z, _, 1, _, rfl, rfl, .inl (.inl cez), at1, by show 1 ≤ sizeLine; decide, fun cp1 cn1 => ?_⟩
      generalize hX : upd H4 cp1 _ = cH1
      have cs1 : Same H4 cH1 := by
        rw [← hX]
        exact same_upd cn1
      have ce1 := (congrFun hX cp1).symm.trans upd_same
      clear hX
      replace cez := cs1 _ _ cez
      replace cdc := cdc.same cs1
      refine ⟨Nat.zero_le _, fun cp2 cn2 => ?_⟩
      have cd2 := cdc.ne cn2
      generalize hX : upd cH1 cp2 _ = cH2
      have cs2 : Same cH1 cH2 := by
        rw [← hX]
        exact same_upd cn2
      have ce2 := (congrFun hX cp2).symm.trans upd_same
      clear hX
      replace cez := cs2 _ _ cez
      replace cdc := cdc.same cs2
      refine fun cp3 cn3 => ?_
      generalize hX : upd cH2 cp3 _ = cH3
      have cs3 : Same cH2 cH3 := by
        rw [← hX]
        exact same_upd cn3
      have ce3 := (congrFun hX cp3).symm.trans upd_same
      clear hX
      replace cez := cs3 _ _ cez
      replace cdc := cdc.same cs3
      refine ⟨_, _, rfl, rfl, ⟨by decide, by decide +kernel⟩, by show 10 ≤ sizeLine; decide, fun cp4 cn4 => ?_⟩
      have cd4 := cdc.ne cn4
      generalize hX : upd cH3 cp4 _ = cH4
      have cs4 : Same cH3 cH4 := by
        rw [← hX]
        exact same_upd cn4
      have ce4 := (congrFun hX cp4).symm.trans upd_same
      clear hX
      replace cez := cs4 _ _ cez
      replace cdc := cdc.same cs4
      have ck4 : Same cH4 cH4 := Same.rfl
      have ck3 := cs4.trans ck4
      have ck2 := cs3.trans ck3
      have ck1 := cs2.trans ck2
      have ck0 := cs1.trans ck1
      refine ⟨D, cp4, _, cdc, rfl, .inl (.inl ce4), cd4, List.cons_ne_nil _ _, by show 10 < 1000; decide, fun v HX hv gx _ => ?_⟩
      have all : ∀ v ∈ [V.non, V.int (-1), V.int ((2 ^ (m * en m b) : Nat) : Int), V.bl true, V.str "0", V.ref cp1, V.ref cp2, V.ref cp3, V.int ((10 : Int) ^ ((30 : Int).toNat)), V.bl false], ∃ d, Odw K cH4 (isOdd m b) v d := fun v hv => by
        simp only [List.mem_cons, List.not_mem_nil, or_false] at hv
        rcases hv with rfl | rfl | rfl | rfl | rfl | rfl | rfl | rfl | rfl | rfl
        · exact ⟨_, .non, by decide +kernel, by rfl⟩
        · exact ⟨_, .int _, by decide +kernel, by rfl⟩
        · exact ⟨_, .int _, small_top mm, odd_top⟩
        · exact ⟨_, .bl _, by decide +kernel, by rfl⟩
        · exact ⟨_, .str _, by decide +kernel, by rfl⟩
        · exact ⟨_, .tup (tupT (ck1 _ _ ce1)), by decide +kernel, by rfl⟩
        · exact ⟨_, .lst (ck2 _ _ ce2), by decide +kernel, by rfl⟩
        · exact ⟨_, .dct (ck3 _ _ ce3), by decide +kernel, by rfl⟩
        · exact ⟨_, .int _, by decide +kernel, odd_big mm⟩
        · exact ⟨_, .bl _, by decide +kernel, by rfl⟩
      obtain ⟨d, od⟩ := all v hv
      exact hN _ _ ⟨v, d, rfl, (Go.of g4.2 ck0).trans gx, od.go cdc gx⟩
    rintro σX H5 ⟨vo, do_, rfl, g5, ovo⟩
    have ez5 := g5.1 _ _ nZ ez4
    clear ez4
    refine seq_gen (P := fun σ' H' => ∃ L xs, σ' = [some (.ref D), some (.int (m : Int)), some (.bl b), some (.ref sp), some (.ref Z), some vn, some vb, some vo, some (.ref L), none, none, none, none] ∧ Same H5 H' ∧ L ≠ D ∧ H' L = some (.lst xs) ∧ xs.length = 10 ∧ ∀ H'', Go D H' H'' → ∀ v ∈ xs, NoPs K H'' m (en m b) v) (fun N hN => ?_) ?_
    · have dez := ez5
      have ddc := g5.2
      refine ⟨Nat.zero_le _, fun dp1 dn1 => ?_⟩
      have dd1 := ddc.ne dn1
      generalize hX : upd H5 dp1 _ = dH1
      have ds1 : Same H5 dH1 := by
        rw [← hX]
        exact same_upd dn1
      have de1 := (congrFun hX dp1).symm.trans upd_same
      clear hX
      replace dez := ds1 _ _ dez
      replace ddc := ddc.same ds1
      refine ⟨by show 2 ≤ sizeLine; decide, fun dp2 dn2 => ?_⟩
      generalize hX : upd dH1 dp2 _ = dH2
      have ds2 : Same dH1 dH2 := by
        rw [← hX]
        exact same_upd dn2
      have de2 := (congrFun hX dp2).symm.trans upd_same
      clear hX
      replace dez := ds2 _ _ dez
      replace ddc := ddc.same ds2
      refine ⟨by show 1 ≤ sizeLine; decide, fun dp3 dn3 => ?_⟩
      have dd3 := ddc.ne dn3
      generalize hX : upd dH2 dp3 _ = dH3
      have ds3 : Same dH2 dH3 := by
        rw [← hX]
        exact same_upd dn3
      have de3 := (congrFun hX dp3).symm.trans upd_same
      clear hX
      replace dez := ds3 _ _ dez
      replace ddc := ddc.same ds3
      refine ⟨by show 2 ≤ sizeLine; decide, fun dp4 dn4 => ?_⟩
      generalize hX : upd dH3 dp4 _ = dH4
      have ds4 : Same dH3 dH4 := by
        rw [← hX]
        exact same_upd dn4
      have de4 := (congrFun hX dp4).symm.trans upd_same
      clear hX
      replace dez := ds4 _ _ dez
      replace ddc := ddc.same ds4
      refine ⟨by show 2 ≤ sizeLine; decide, fun dp5 dn5 => ?_⟩
      generalize hX : upd dH4 dp5 _ = dH5
      have ds5 : Same dH4 dH5 := by
        rw [← hX]
        exact same_upd dn5
      have de5 := (congrFun hX dp5).symm.trans upd_same
      clear hX
      replace dez := ds5 _ _ dez
      replace ddc := ddc.same ds5
      refine ⟨by show 2 ≤ sizeLine; decide, fun dp6 dn6 => ?_⟩
      generalize hX : upd dH5 dp6 _ = dH6
      have ds6 : Same dH5 dH6 := by
        rw [← hX]
        exact same_upd dn6
      have de6 := (congrFun hX dp6).symm.trans upd_same
      clear hX
      replace dez := ds6 _ _ dez
      replace ddc := ddc.same ds6
      refine ⟨by show 2 ≤ sizeLine; decide, fun dp7 dn7 => ?_⟩
      generalize hX : upd dH6 dp7 _ = dH7
      have ds7 : Same dH6 dH7 := by
        rw [← hX]
        exact same_upd dn7
      have de7 := (congrFun hX dp7).symm.trans upd_same
      clear hX
      replace dez := ds7 _ _ dez
      replace ddc := ddc.same ds7
      refine ⟨by show 1 ≤ sizeLine; decide, fun dp8 dn8 => ?_⟩
      generalize hX : upd dH7 dp8 _ = dH8
      have ds8 : Same dH7 dH8 := by
        rw [← hX]
        exact same_upd dn8
      have de8 := (congrFun hX dp8).symm.trans upd_same
      clear hX
      replace dez := ds8 _ _ dez
      replace ddc := ddc.same ds8
      refine ⟨by show 1 ≤ sizeLine; decide, fun dp9 dn9 => ?_⟩
      generalize hX : upd dH8 dp9 _ = dH9
      have ds9 : Same dH8 dH9 := by
        rw [← hX]
        exact same_upd dn9
      have de9 := (congrFun hX dp9).symm.trans upd_same
      clear hX
      replace dez := ds9 _ _ dez
      replace ddc := ddc.same ds9
      refine ⟨by show 3 ≤ sizeLine; decide, fun dp10 dn10 => ?_⟩
      generalize hX : upd dH9 dp10 _ = dH10
      have ds10 : Same dH9 dH10 := by
        rw [← hX]
        exact same_upd dn10
      have de10 := (congrFun hX dp10).symm.trans upd_same
      clear hX
      replace dez := ds10 _ _ dez
      replace ddc := ddc.same ds10
      refine ⟨by show 1 ≤ sizeLine; decide, fun dp11 dn11 => ?_⟩
      generalize hX : upd dH10 dp11 _ = dH11
      have ds11 : Same dH10 dH11 := by
        rw [← hX]
        exact same_upd dn11
      have de11 := (congrFun hX dp11).symm.trans upd_same
      clear hX
      replace dez := ds11 _ _ dez
      replace ddc := ddc.same ds11
      refine ⟨_, rfl, by show 2 ≤ sizeLine; decide, fun dp12 dn12 => ?_⟩
      generalize hX : upd dH11 dp12 _ = dH12
      have ds12 : Same dH11 dH12 := by
        rw [← hX]
        exact same_upd dn12
      have de12 := (congrFun hX dp12).symm.trans upd_same
      clear hX
      replace dez := ds12 _ _ dez
      replace ddc := ddc.same ds12
      refine ⟨by show 1 ≤ sizeLine; decide, fun dp13 dn13 => ?_⟩
      generalize hX : upd dH12 dp13 _ = dH13
      have ds13 : Same dH12 dH13 := by
        rw [← hX]
        exact same_upd dn13
      have de13 := (congrFun hX dp13).symm.trans upd_same
      clear hX
      replace dez := ds13 _ _ dez
      replace ddc := ddc.same ds13
      refine fun dp14 dn14 => ?_
      generalize hX : upd dH13 dp14 _ = dH14
      have ds14 : Same dH13 dH14 := by
        rw [← hX]
        exact same_upd dn14
      have de14 := (congrFun hX dp14).symm.trans upd_same
      clear hX
      replace dez := ds14 _ _ dez
      replace ddc := ddc.same ds14
      refine ⟨by show 10 ≤ sizeLine; decide, fun dp15 dn15 => ?_⟩
      have dd15 := ddc.ne dn15
      generalize hX : upd dH14 dp15 _ = dH15
      have ds15 : Same dH14 dH15 := by
        rw [← hX]
        exact same_upd dn15
      have de15 := (congrFun hX dp15).symm.trans upd_same
      clear hX
      replace dez := ds15 _ _ dez
      replace ddc := ddc.same ds15
      have dk15 : Same dH15 dH15 := Same.rfl
      have dk14 := ds15.trans dk15
      have dk13 := ds14.trans dk14
      have dk12 := ds13.trans dk13
      have dk11 := ds12.trans dk12
      have dk10 := ds11.trans dk11
      have dk9 := ds10.trans dk10
      have dk8 := ds9.trans dk9
      have dk7 := ds8.trans dk8
      have dk6 := ds7.trans dk7
      have dk5 := ds6.trans dk6
      have dk4 := ds5.trans dk5
      have dk3 := ds4.trans dk4
      have dk2 := ds3.trans dk3
      have dk1 := ds2.trans dk2
      have dk0 := ds1.trans dk1
      refine hN _ _ ⟨dp15, _, rfl, dk0, dd15, de15, rfl, fun H'' g v hv => ?_⟩
      simp only [List.mem_cons, List.not_mem_nil, or_false] at hv
      rcases hv with rfl | rfl | rfl | rfl | rfl | rfl | rfl | rfl | rfl | rfl
      · exact .not .non
      · exact .not (.int _)
      · exact .not (.lst (g.1 _ _ dd1 (dk1 _ _ de1)))
      · exact .not (.lst (g.1 _ _ dd3 (dk3 _ _ de3)))
      · exact NoPs.duo (Go.sqT ddc g (tupT (dk4 _ _ de4))) (.int _) (.int _)
      · exact .twice (p := (0, 0)) (Go.sqT ddc g (tupT (dk7 _ _ de7))) (Go.sqT ddc g (tupT (dk5 _ _ de5))) (Go.sqT ddc g (tupT (dk6 _ _ de6))) mm.1 enl.1
      · exact NoPs.one (Go.sqT ddc g (tupT (dk9 _ _ de9))) (.few (Go.sqT ddc g (tupT (dk8 _ _ de8))) (by decide) (by decide))
      · exact NoPs.one (Go.sqT ddc g (tupT (dk11 _ _ de11))) (.few (Go.sqT ddc g (tupT (dk10 _ _ de10))) (by decide) (by decide))
      · exact NoPs.one (Go.sqT ddc g (tupT (dk13 _ _ de13))) (.twoF (Go.sqT ddc g (tupT (dk12 _ _ de12))) (.int _) (.int _) (by rw [inB_top]; rfl))
      · exact .not (.dct (g.1 _ _ (ddc.neT (dk14 _ _ de14) (fun xs z => by cases z)) (dk14 _ _ de14)))
    rintro σX H6 ⟨L6, xs6, rfl, s6, nL6, eL6, len6, all6⟩
    have g6 := Go.of g5.2 s6
    have ez6 := s6 _ _ ez5
    refine seq_gen (P := fun σ' H' => ∃ vp, σ' = [some (.ref D), some (.int (m : Int)), some (.bl b), some (.ref sp), some (.ref Z), some vn, some vb, some vo, some vp, none, none, none, none] ∧ Go D H6 H' ∧ ∀ H'', Go D H' H'' → NoPs K H'' m (en m b) vp) (fun N hN => ?_) ?_
    · have eez := ez6
      have edc := g6.2
      refine ⟨_, rfl, _, rfl, _, rfl, Z, _, 0, _, rfl, rfl, .inl (.inl eez), at0, by show 2 ≤ sizeLine; decide, fun ep1 en1 => ?_⟩
      generalize hX : upd H6 ep1 _ = eH1
      have es1 : Same H6 eH1 := by
        rw [← hX]
        exact same_upd en1
      have ee1 := (congrFun hX ep1).symm.trans upd_same
      clear hX
      replace eez := es1 _ _ eez
      replace edc := edc.same es1
      refine ⟨by show 1 ≤ sizeLine; decide, fun ep2 en2 => ?_⟩
      generalize hX : upd eH1 ep2 _ = eH2
      have es2 : Same eH1 eH2 := by
        rw [← hX]
        exact same_upd en2
      have ee2 := (congrFun hX ep2).symm.trans upd_same
      clear hX
      replace eez := es2 _ _ eez
      replace edc := edc.same es2
      refine ⟨by show 2 ≤ sizeLine; decide, fun ep3 en3 => ?_⟩
      generalize hX : upd eH2 ep3 _ = eH3
      have es3 : Same eH2 eH3 := by
        rw [← hX]
        exact same_upd en3
      have ee3 := (congrFun hX ep3).symm.trans upd_same
      clear hX
      replace eez := es3 _ _ eez
      replace edc := edc.same es3
      refine ⟨by show 1 ≤ sizeLine; decide, fun ep4 en4 => ?_⟩
      generalize hX : upd eH3 ep4 _ = eH4
      have es4 : Same eH3 eH4 := by
        rw [← hX]
        exact same_upd en4
      have ee4 := (congrFun hX ep4).symm.trans upd_same
      clear hX
      replace eez := es4 _ _ eez
      replace edc := edc.same es4
      refine ⟨_, rfl, by show 2 ≤ sizeLine; decide, fun ep5 en5 => ?_⟩
      generalize hX : upd eH4 ep5 _ = eH5
      have es5 : Same eH4 eH5 := by
        rw [← hX]
        exact same_upd en5
      have ee5 := (congrFun hX ep5).symm.trans upd_same
      clear hX
      replace eez := es5 _ _ eez
      replace edc := edc.same es5
      refine ⟨by show 1 ≤ sizeLine; decide, fun ep6 en6 => ?_⟩
      generalize hX : upd eH5 ep6 _ = eH6
      have es6 : Same eH5 eH6 := by
        rw [← hX]
        exact same_upd en6
      have ee6 := (congrFun hX ep6).symm.trans upd_same
      clear hX
      replace eez := es6 _ _ eez
      replace edc := edc.same es6
      refine ⟨by show 1 ≤ sizeLine; decide, fun ep7 en7 => ?_⟩
      generalize hX : upd eH6 ep7 _ = eH7
      have es7 : Same eH6 eH7 := by
        rw [← hX]
        exact same_upd en7
      have ee7 := (congrFun hX ep7).symm.trans upd_same
      clear hX
      replace eez := es7 _ _ eez
      replace edc := edc.same es7
      refine ⟨by show 2 ≤ sizeLine; decide, fun ep8 en8 => ?_⟩
      have ed8 := edc.ne en8
      generalize hX : upd eH7 ep8 _ = eH8
      have es8 : Same eH7 eH8 := by
        rw [← hX]
        exact same_upd en8
      have ee8 := (congrFun hX ep8).symm.trans upd_same
      clear hX
      replace eez := es8 _ _ eez
      replace edc := edc.same es8
      refine ⟨by show 1 ≤ sizeLine; decide, fun ep9 en9 => ?_⟩
      generalize hX : upd eH8 ep9 _ = eH9
      have es9 : Same eH8 eH9 := by
        rw [← hX]
        exact same_upd en9
      have ee9 := (congrFun hX ep9).symm.trans upd_same
      clear hX
      replace eez := es9 _ _ eez
      replace edc := edc.same es9
      refine ⟨by show 2 ≤ sizeLine; decide, fun ep10 en10 => ?_⟩
      generalize hX : upd eH9 ep10 _ = eH10
      have es10 : Same eH9 eH10 := by
        rw [← hX]
        exact same_upd en10
      have ee10 := (congrFun hX ep10).symm.trans upd_same
      clear hX
      replace eez := es10 _ _ eez
      replace edc := edc.same es10
      refine ⟨by show 1 ≤ sizeLine; decide, fun ep11 en11 => ?_⟩
      generalize hX : upd eH10 ep11 _ = eH11
      have es11 : Same eH10 eH11 := by
        rw [← hX]
        exact same_upd en11
      have ee11 := (congrFun hX ep11).symm.trans upd_same
      clear hX
      replace eez := es11 _ _ eez
      replace edc := edc.same es11
      refine ⟨by show 6 ≤ sizeLine; decide, fun ep12 en12 => ?_⟩
      have ed12 := edc.ne en12
      generalize hX : upd eH11 ep12 _ = eH12
      have es12 : Same eH11 eH12 := by
        rw [← hX]
        exact same_upd en12
      have ee12 := (congrFun hX ep12).symm.trans upd_same
      clear hX
      replace eez := es12 _ _ eez
      replace edc := edc.same es12
      have ek12 : Same eH12 eH12 := Same.rfl
      have ek11 := es12.trans ek12
      have ek10 := es11.trans ek11
      have ek9 := es10.trans ek10
      have ek8 := es9.trans ek9
      have ek7 := es8.trans ek8
      have ek6 := es7.trans ek7
      have ek5 := es6.trans ek6
      have ek4 := es5.trans ek5
      have ek3 := es4.trans ek4
      have ek2 := es3.trans ek3
      have ek1 := es2.trans ek2
      have ek0 := es1.trans ek1
      refine ⟨L6, ep12, xs6, _, rfl, rfl, ek0 _ _ eL6, ee12, by rw [len6]; show 10 + 6 ≤ sizeLine; decide, fun p np => ?_⟩
      have npD := edc.ne np
      generalize hX : upd eH12 p _ = HL
      have sL : Same eH12 HL := by
        rw [← hX]
        exact same_upd np
      have eL := (congrFun hX p).symm.trans upd_same
      clear hX
      have dL := edc.same sL
      refine ⟨D, p, _, dL, rfl, .inl (.inl eL), npD, (fun z => nomatch (List.append_eq_nil_iff.mp z).2), by rw [List.length_append, len6]; show 10 + 6 < 1000; decide, fun v HX hv gx _ => ?_⟩
      refine hN _ _ ⟨v, rfl, ((Go.of g6.2 ek0).then sL).trans gx, fun H'' g' => ?_⟩
      have g := gx.trans g'
      rcases List.mem_append.mp hv with hv | hv
      · exact all6 _ (((Go.of g6.2 ek0).then sL).trans g) v hv
      simp only [List.mem_cons, List.not_mem_nil, or_false] at hv
      rcases hv with rfl | rfl | rfl | rfl | rfl | rfl
      · exact NoPs.one (Go.sqT dL g (tupT ((ek2.trans sL) _ _ ee2))) (.twoF (Go.sqT dL g (tupT ((ek1.trans sL) _ _ ee1))) (.int _) (.int _) (by rw [inB_top, Bool.and_false]))
      · exact NoPs.one (Go.sqT dL g (tupT ((ek4.trans sL) _ _ ee4))) (.twoF (Go.sqT dL g (tupT ((ek3.trans sL) _ _ ee3))) (.bl _) (.int _) (by rfl))
      · exact NoPs.one (Go.sqT dL g (tupT ((ek6.trans sL) _ _ ee6))) (.twoF (Go.sqT dL g (tupT ((ek5.trans sL) _ _ ee5))) (.int _) (.int _) (by rfl))
      · exact NoPs.one (Go.sqT dL g (tupT ((ek7.trans sL) _ _ ee7))) .non
      · exact NoPs.one (Go.sqT dL g (tupT ((ek9.trans sL) _ _ ee9))) (.lst (g.1 _ _ ed8 ((ek8.trans sL) _ _ ee8)))
      · exact NoPs.one (Go.sqT dL g (tupT ((ek11.trans sL) _ _ ee11))) (.twoF (Go.sqT dL g (tupT ((ek10.trans sL) _ _ ee10))) (.str _) (.int _) (by rfl))
    rintro σX H7 ⟨vp, rfl, g7, ovp⟩
    have ez7 := g7.1 _ _ nZ ez6
    clear eL6 all6 len6 ez5 ez6
    have lo : 1 ≤ 2 ^ (m * en m b) - 1 := by
      have p : 2 ≤ 2 ^ (m * en m b) := Nat.le_trans (by decide) (Nat.pow_le_pow_right (n := 2) (by decide) (show 1 ≤ m * en m b from Nat.mul_pos mm.1 enl.1))
      omega
    have up : 2 ^ (m * en m b) - 1 ≤ 5000 := by omega
    have ne1 : List.replicate (2 ^ (m * en m b) - 1) (V.int 0) ≠ [] := fun z => by
      have := congrArg List.length z
      rw [List.length_replicate] at this
      simp only [List.length_nil] at this
      omega
    have len1 : (List.replicate (2 ^ (m * en m b) - 1) (V.int 0)).length + [V.int ((2 ^ (m * en m b) : Nat) : Int)].length ≤ sizeLine := by
      rw [List.length_replicate, sizeLine_eq]
      simp only [List.length_cons, List.length_nil]
      omega
    refine seq_gen (P := fun σ' H' => ∃ vt, σ' = [some (.ref D), some (.int (m : Int)), some (.bl b), some (.ref sp), some (.ref Z), some vn, some vb, some vo, some vp, some vt, none, none, none] ∧ Go D H7 H' ∧ ∀ H'', Go D H' H'' → IsT K H'' vt m b false) (fun N hN => ?_) ?_
    · have fez := ez7
      have fdc := g7.2
      refine ⟨_, rfl, Nat.zero_le _, fun fp1 fn1 => ?_⟩
      generalize hX : upd H7 fp1 _ = fH1
      have fs1 : Same H7 fH1 := by
        rw [← hX]
        exact same_upd fn1
      have fe1 := (congrFun hX fp1).symm.trans upd_same
      clear hX
      replace fez := fs1 _ _ fez
      replace fdc := fdc.same fs1
      refine ⟨by show 1 ≤ sizeLine; decide, fun fp2 fn2 => ?_⟩
      have fd2 := fdc.ne fn2
      generalize hX : upd fH1 fp2 _ = fH2
      have fs2 : Same fH1 fH2 := by
        rw [← hX]
        exact same_upd fn2
      have fe2 := (congrFun hX fp2).symm.trans upd_same
      clear hX
      replace fez := fs2 _ _ fez
      replace fdc := fdc.same fs2
      refine ⟨_, rfl, Z, _, 1, _, rfl, rfl, .inl (.inl fez), at1, fp2, _, _, rfl, rfl, fe2, by omega, by omega, by simp only [List.length_cons, List.length_nil, Nat.zero_add, Nat.one_mul, Int.toNat_natCast]; exact Nat.le_trans szl (by decide), fun fp3 fn3 => ?_⟩
      have fd3 := fdc.ne fn3
      generalize hX : upd fH2 fp3 _ = fH3
      have fs3 : Same fH2 fH3 := by
        rw [← hX]
        exact same_upd fn3
      have fe3 := (congrFun hX fp3).symm.trans upd_same
      clear hX
      replace fez := fs3 _ _ fez
      replace fdc := fdc.same fs3
      refine ⟨by show 1 ≤ sizeLine; decide, fun fp4 fn4 => ?_⟩
      generalize hX : upd fH3 fp4 _ = fH4
      have fs4 : Same fH3 fH4 := by
        rw [← hX]
        exact same_upd fn4
      have fe4 := (congrFun hX fp4).symm.trans upd_same
      clear hX
      replace fez := fs4 _ _ fez
      replace fdc := fdc.same fs4
      refine ⟨_, rfl, Z, _, 1, _, rfl, rfl, .inl (.inl fez), at1, _, _, rfl, rfl, fp4, 2 ^ (m * en m b) - 1, _, rfl, congrArg V.int (sub1 Nat.one_le_two_pow), tupT fe4, lo, up, fun fp5 fH5 fs5 fq5 => ?_⟩
      replace fez := fs5 _ _ fez
      replace fdc := fdc.same fs5
      refine ⟨by show 1 ≤ sizeLine; decide, fun fp6 fn6 => ?_⟩
      generalize hX : upd fH5 fp6 _ = fH6
      have fs6 : Same fH5 fH6 := by
        rw [← hX]
        exact same_upd fn6
      have fe6 := (congrFun hX fp6).symm.trans upd_same
      clear hX
      replace fez := fs6 _ _ fez
      replace fdc := fdc.same fs6
      refine ⟨_, rfl, Z, _, 1, _, rfl, rfl, .inl (.inl fez), at1, _, _, rfl, rfl, fp6, 2 ^ (m * en m b) - 1, _, rfl, congrArg V.int (sub1 Nat.one_le_two_pow), tupT fe6, lo, up, fun fp7 fH7 fs7 fq7 => ?_⟩
      replace fez := fs7 _ _ fez
      replace fdc := fdc.same fs7
      refine ⟨_, rfl, Z, _, 1, _, rfl, rfl, .inl (.inl fez), at1, by show 1 ≤ sizeLine; decide, fun fp8 fn8 => ?_⟩
      generalize hX : upd fH7 fp8 _ = fH8
      have fs8 : Same fH7 fH8 := by
        rw [← hX]
        exact same_upd fn8
      have fe8 := (congrFun hX fp8).symm.trans upd_same
      clear hX
      replace fez := fs8 _ _ fez
      replace fdc := fdc.same fs8
      refine ⟨fp7, fp8, _, _, rfl, rfl, Same.sqT fs8 fq7, tupT fe8, ne1, len1, (fun z => absurd z (List.cons_ne_nil _ _)), fun _ fp9 fn9 => ?_⟩
      generalize hX : upd fH8 fp9 _ = fH9
      have fs9 : Same fH8 fH9 := by
        rw [← hX]
        exact same_upd fn9
      have fe9 := (congrFun hX fp9).symm.trans upd_same
      clear hX
      replace fez := fs9 _ _ fez
      replace fdc := fdc.same fs9
      refine fun fp10 fn10 => ?_
      generalize hX : upd fH9 fp10 _ = fH10
      have fs10 : Same fH9 fH10 := by
        rw [← hX]
        exact same_upd fn10
      have fe10 := (congrFun hX fp10).symm.trans upd_same
      clear hX
      replace fez := fs10 _ _ fez
      replace fdc := fdc.same fs10
      refine ⟨by show 7 ≤ sizeLine; decide, fun fp11 fn11 => ?_⟩
      have fd11 := fdc.ne fn11
      generalize hX : upd fH10 fp11 _ = fH11
      have fs11 : Same fH10 fH11 := by
        rw [← hX]
        exact same_upd fn11
      have fe11 := (congrFun hX fp11).symm.trans upd_same
      clear hX
      replace fez := fs11 _ _ fez
      replace fdc := fdc.same fs11
      have fk11 : Same fH11 fH11 := Same.rfl
      have fk10 := fs11.trans fk11
      have fk9 := fs10.trans fk10
      have fk8 := fs9.trans fk9
      have fk7 := fs8.trans fk8
      have fk6 := fs7.trans fk7
      have fk5 := fs6.trans fk6
      have fk4 := fs5.trans fk5
      have fk3 := fs4.trans fk4
      have fk2 := fs3.trans fk3
      have fk1 := fs2.trans fk2
      have fk0 := fs1.trans fk1
      refine ⟨D, fp11, _, fdc, rfl, .inl (.inl fe11), fd11, List.cons_ne_nil _ _, by show 7 < 1000; decide, fun v HX hv gx _ => ?_⟩
      refine hN _ _ ⟨v, rfl, (Go.of g7.2 fk0).trans gx, fun H'' g' => ?_⟩
      have g := gx.trans g'
      simp only [List.mem_cons, List.not_mem_nil, or_false] at hv
      rcases hv with rfl | rfl | rfl | rfl | rfl | rfl | rfl
      · exact .inr ⟨.non, rfl⟩
      · exact .inr ⟨.int _, rfl⟩
      · exact isT_len (Go.sqT fdc g (tupT (fk1 _ _ fe1))) (fun x hx => nomatch hx) (Nat.zero_le _) (by show 0 ≠ _; omega)
      · exact .inr ⟨.lst (g.1 _ _ fd3 (fk3 _ _ fe3)), rfl⟩
      · exact isT_len (Go.sqT fdc g (Same.sqT fk5 fq5)) atm_rep (by rw [List.length_replicate]; exact up) (by rw [List.length_replicate]; omega)
      · exact isT_last (Go.sqT fdc g (tupT (fk9 _ _ fe9))) atm_rep (.inr (.inr ⟨_, rfl⟩)) (by rw [List.length_replicate]; omega) (inB_top _)
      · exact .inr ⟨.dct (g.1 _ _ (fdc.neT (fk10 _ _ fe10) (fun xs z => by cases z)) (fk10 _ _ fe10)), rfl⟩
    rintro σX H8 ⟨vt, rfl, g8, ovt⟩
    have ez8 := g8.1 _ _ nZ ez7
    refine seq_gen (P := fun σ' H' => ∃ tr, σ' = [some (.ref D), some (.int (m : Int)), some (.bl b), some (.ref sp), some (.ref Z), some vn, some vb, some vo, some vp, some vt, some (.ref tr), none, none] ∧ Same H8 H' ∧ IsT K H' (.ref tr) m b true) (fun N hN => ?_) ?_
    · have jez := ez8
      have jdc := g8.2
      refine ⟨by show 1 ≤ sizeLine; decide, fun jp1 jn1 => ?_⟩
      generalize hX : upd H8 jp1 _ = jH1
      have js1 : Same H8 jH1 := by
        rw [← hX]
        exact same_upd jn1
      have je1 := (congrFun hX jp1).symm.trans upd_same
      clear hX
      replace jez := js1 _ _ jez
      replace jdc := jdc.same js1
      refine ⟨_, rfl, Z, _, 1, _, rfl, rfl, .inl (.inl jez), at1, jp1, 2 ^ (m * en m b), _, rfl, rfl, tupT je1, Nat.one_le_two_pow, Nat.le_trans szl (by decide), fun jp2 jH2 js2 jq2 => ?_⟩
      replace jez := js2 _ _ jez
      replace jdc := jdc.same js2
      exact hN _ _ ⟨jp2, rfl, js1.trans js2, isT_zero mm jq2⟩
    rintro σX Hb ⟨tr, rfl, s9, ivr⟩
    have g28 := ((((g3.trans g4).trans g5).trans g6).trans g7).trans g8
    have gb : Go D H Hb := (g2.trans g28).then s9
    have diB := gb.2
    have atB : SpAt C Hb sp m b := (((((((at2.go g2.2 g3).go g3.2 g4).go g4.2 g5).go g5.2 g6).go g6.2 g7).go g7.2 g8)).same s9
    have onB := (((((ovn.go g3.2 g4).go g4.2 g5).go g5.2 g6).go g6.2 g7).go g7.2 g8).same s9
    have obB := ((((ovb.go g4.2 g5).go g5.2 g6).go g6.2 g7).go g7.2 g8).same s9
    have ooB := (((ovo.go g5.2 g6).go g6.2 g7).go g7.2 g8).same s9
    have npB := ovp _ (g8.then s9)
    have ntB := ovt _ (Go.of g8.2 s9)
    have ezB := s9 _ _ ez8
    have TB0 : LamX.Tabs TS Hb := Tabs.go di gb tT
    have X0 : LamX.ExtN Hb Hb := LamX.ExtN.refl Hb
    obtain ⟨shn, lnn, dpn, skn⟩ := okD.len onB.s
    obtain ⟨sho, lno, dpo, sko⟩ := okD.len ooB.s
    have li : ∀ {n : Nat}, n ≤ 1000 → n ≤ sizeLine := fun h => Nat.le_trans h (by decide +kernel)
    clear g2 g3 g4 g5 g6 g7 g8 g28 s6 s9 at2 ovn ovb ovo ovp ovt ez7 ez8 tT
    refine ⟨TB0, fun D1 xD TD => ?_⟩
    have XD := X0.trans xD
    refine tsh_use (w := ("number " : Str) ++ dn.shown) (fun N hN => ?_) (fun G1 s2 => ?_)
    · have at_ := atB.extN XD
      have on := onB.extN XD
      have ob := obB.extN XD
      have oo := ooB.extN XD
      obtain ⟨_, dxS, eS⟩ := id at_
      exact ⟨_, rfl, fun x dx nx ndx nex => ⟨x, dx, vn, .bl false, rfl, upd_same, (on.same (made_same nx ndx)).o.pl, .bl _, .inl ⟨no_of on.p, fun d' Hz s2 nd ae => ap.wN (on.same ((made_same nx ndx).trans s2)) ae (hN _ ((made_same nx ndx).trans s2))⟩⟩⟩
    have X1 := XD.trans (ExtN.of s2)
    have T1 := Tabs.same TD s2
    clear XD TD xD s2 TB0
    refine ⟨by show 1 ≤ sizeLine; decide, fun L nL => ?_⟩
    generalize hX : upd G1 L _ = JL
    have sL : Same G1 JL := by
      rw [← hX]
      exact same_upd nL
    have eL := (congrFun hX L).symm.trans upd_same
    clear hX
    have XL := X1.trans (ExtN.of sL)
    have TL := Tabs.same T1 sL
    have nbL := ExtN.new X1 nL
    refine ⟨_, rfl, .inl ⟨rfl, _, .inl (.inl eL)⟩, ?_⟩
    refine ⟨TL, fun D2 xD TD => ?_⟩
    have XD := XL.trans xD
    have eD := xD _ _ eL (fun ps z => nomatch z)
    refine tsh_use (w := ("number " : Str) ++ dn.shown) (fun N hN => ?_) (fun G2 s2 => ?_)
    · have at_ := atB.extN XD
      have on := onB.extN XD
      have ob := obB.extN XD
      have oo := ooB.extN XD
      obtain ⟨_, dxS, eS⟩ := id at_
      exact ⟨_, rfl, _, rfl, rfl, rfl, fun x dx nx ndx nex => ⟨x, dx, vn, vb, rfl, upd_same, (on.same (made_same nx ndx)).o.pl, (ob.same (made_same nx ndx)).o.pl, .inl ⟨no_of on.p, fun d' Hz s2 nd ae => ap.wN (on.same ((made_same nx ndx).trans s2)) ae (hN _ ((made_same nx ndx).trans s2))⟩⟩⟩
    have X2 := XD.trans (ExtN.of s2)
    have T2 := Tabs.same TD s2
    have q2 := s2 _ _ eD
    clear eD eL
    clear XD TD xD s2 XL TL
    refine ⟨L, _, _, rfl, rfl, q2, by show 1 < sizeLine; decide, ?_⟩
    generalize hX : upd G2 L _ = M2
    have Y2 : LamX.ExtN Hb M2 := by
      rw [← hX]
      exact ExtN.upd X2 nbL
    have U2 : LamX.Tabs TS M2 := by
      rw [← hX]
      exact Tabs.put T2 q2
    have e2 := (congrFun hX L).symm.trans upd_same
    clear hX X2 T2 q2
    refine ⟨_, rfl, .inl ⟨rfl, _, .inl (.inl e2)⟩, ?_⟩
    refine ⟨U2, fun D3 xD TD => ?_⟩
    have XD := Y2.trans xD
    have eD := xD _ _ e2 (fun ps z => nomatch z)
    refine tsh_use (w := ("operation" : Str)) (fun N hN => ?_) (fun G3 s2 => ?_)
    · have at_ := atB.extN XD
      have on := onB.extN XD
      have ob := obB.extN XD
      have oo := ooB.extN XD
      obtain ⟨_, dxS, eS⟩ := id at_
      exact ⟨_, rfl, _, rfl, rfl, rfl, fun x dx nx ndx nex => ⟨x, dx, .int (m : Int), vb, rfl, upd_same, .int _, (ob.same (made_same nx ndx)).o.pl, .inr ⟨modes_in mm, isB_of ob.p, fun Hz s2 => ap.wO (hN _ ((made_same nx ndx).trans s2))⟩⟩⟩
    have X3 := XD.trans (ExtN.of s2)
    have T3 := Tabs.same TD s2
    have q3 := s2 _ _ eD
    clear eD e2
    clear XD TD xD s2 Y2 U2
    refine ⟨L, _, _, rfl, rfl, q3, by show 2 < sizeLine; decide, ?_⟩
    generalize hX : upd G3 L _ = M3
    have Y3 : LamX.ExtN Hb M3 := by
      rw [← hX]
      exact ExtN.upd X3 nbL
    have U3 : LamX.Tabs TS M3 := by
      rw [← hX]
      exact Tabs.put T3 q3
    have e3 := (congrFun hX L).symm.trans upd_same
    clear hX X3 T3 q3
    refine ⟨_, rfl, .inl ⟨rfl, _, .inl (.inl e3)⟩, ?_⟩
    refine ⟨U3, fun D4 xD TD => ?_⟩
    have XD := Y3.trans xD
    have eD := xD _ _ e3 (fun ps z => nomatch z)
    refine tsh_use (w := ("number " : Str) ++ do_.shown) (fun N hN => ?_) (fun G4 s2 => ?_)
    · have at_ := atB.extN XD
      have on := onB.extN XD
      have ob := obB.extN XD
      have oo := ooB.extN XD
      obtain ⟨_, dxS, eS⟩ := id at_
      exact ⟨_, rfl, sp, dxS, _, rfl, eS, noF, _, rfl, sp, m, b, vo, rfl, at_, oo.o.pl, no_of oo.p, fun d' Hz s2 nd ae => ap.wN (oo.same s2) ae (hN _ s2)⟩
    have X4 := XD.trans (ExtN.of s2)
    have T4 := Tabs.same TD s2
    have q4 := s2 _ _ eD
    clear eD e3
    clear XD TD xD s2 Y3 U3
    refine ⟨L, _, _, rfl, rfl, q4, by show 3 < sizeLine; decide, ?_⟩
    generalize hX : upd G4 L _ = M4
    have Y4 : LamX.ExtN Hb M4 := by
      rw [← hX]
      exact ExtN.upd X4 nbL
    have U4 : LamX.Tabs TS M4 := by
      rw [← hX]
      exact Tabs.put T4 q4
    have e4 := (congrFun hX L).symm.trans upd_same
    clear hX X4 T4 q4
    refine ⟨_, rfl, .inl ⟨rfl, _, .inl (.inl e4)⟩, ?_⟩
    refine ⟨U4, fun D5 xD TD => ?_⟩
    have XD := Y4.trans xD
    have eD := xD _ _ e4 (fun ps z => nomatch z)
    refine tsh_use (w := ("meaning" : Str)) (fun N hN => ?_) (fun G5 s2 => ?_)
    · have at_ := atB.extN XD
      have on := onB.extN XD
      have ob := obB.extN XD
      have oo := ooB.extN XD
      obtain ⟨_, dxS, eS⟩ := id at_
      exact ⟨_, rfl, sp, dxS, _, rfl, eS, noF, _, rfl, sp, m, b, vp, rfl, at_, npB.extN XD, fun Hz s2 => ap.wM (hN _ s2)⟩
    have X5 := XD.trans (ExtN.of s2)
    have T5 := Tabs.same TD s2
    have q5 := s2 _ _ eD
    clear eD e4
    clear XD TD xD s2 Y4 U4
    refine ⟨L, _, _, rfl, rfl, q5, by show 4 < sizeLine; decide, ?_⟩
    generalize hX : upd G5 L _ = M5
    have Y5 : LamX.ExtN Hb M5 := by
      rw [← hX]
      exact ExtN.upd X5 nbL
    have U5 : LamX.Tabs TS M5 := by
      rw [← hX]
      exact Tabs.put T5 q5
    have e5 := (congrFun hX L).symm.trans upd_same
    clear hX X5 T5 q5
    refine ⟨_, rfl, .inl ⟨rfl, _, .inl (.inl e5)⟩, ?_⟩
    refine ⟨U5, fun D6 xD TD => ?_⟩
    have XD := Y5.trans xD
    have eD := xD _ _ e5 (fun ps z => nomatch z)
    refine tsh_use (w := ("meaning" : Str)) (fun N hN => ?_) (fun G6 s2 => ?_)
    · have at_ := atB.extN XD
      have on := onB.extN XD
      have ob := obB.extN XD
      have oo := ooB.extN XD
      obtain ⟨_, dxS, eS⟩ := id at_
      exact ⟨_, rfl, sp, dxS, _, rfl, eS, noF, _, rfl, sp, m, b, vt, rfl, at_, ntB.extN XD, fun Hz s2 => ap.wM (hN _ s2)⟩
    have X6 := XD.trans (ExtN.of s2)
    have T6 := Tabs.same TD s2
    have q6 := s2 _ _ eD
    clear eD e5
    clear XD TD xD s2 Y5 U5
    refine ⟨L, _, _, rfl, rfl, q6, by show 5 < sizeLine; decide, ?_⟩
    generalize hX : upd G6 L _ = M6
    have Y6 : LamX.ExtN Hb M6 := by
      rw [← hX]
      exact ExtN.upd X6 nbL
    have U6 : LamX.Tabs TS M6 := by
      rw [← hX]
      exact Tabs.put T6 q6
    have e6 := (congrFun hX L).symm.trans upd_same
    clear hX X6 T6 q6
    refine ⟨_, rfl, .inl ⟨rfl, _, .inl (.inl e6)⟩, ?_⟩
    refine ⟨U6, fun D7 xD TD => ?_⟩
    have XD := Y6.trans xD
    have eD := xD _ _ e6 (fun ps z => nomatch z)
    refine tsh_use (w := ("meaning" : Str)) (fun N hN => ?_) (fun G7 s2 => ?_)
    · have at_ := atB.extN XD
      have on := onB.extN XD
      have ob := obB.extN XD
      have oo := ooB.extN XD
      obtain ⟨_, dxS, eS⟩ := id at_
      exact ⟨_, rfl, sp, dxS, _, rfl, eS, noF, _, rfl, _, rfl, sp, m, b, vt, .ref tr, false, rfl, at_, ntB.extN XD, (fun z => nomatch z), fun Hz s2 => ap.wM (hN _ s2)⟩
    have X7 := XD.trans (ExtN.of s2)
    have T7 := Tabs.same TD s2
    have q7 := s2 _ _ eD
    clear eD e6
    clear XD TD xD s2 Y6 U6
    refine ⟨L, _, _, rfl, rfl, q7, by show 6 < sizeLine; decide, ?_⟩
    generalize hX : upd G7 L _ = M7
    have Y7 : LamX.ExtN Hb M7 := by
      rw [← hX]
      exact ExtN.upd X7 nbL
    have U7 : LamX.Tabs TS M7 := by
      rw [← hX]
      exact Tabs.put T7 q7
    have e7 := (congrFun hX L).symm.trans upd_same
    clear hX X7 T7 q7
    refine ⟨_, rfl, .inl ⟨rfl, _, .inl (.inl e7)⟩, ?_⟩
    refine ⟨U7, fun D8 xD TD => ?_⟩
    have XD := Y7.trans xD
    have eD := xD _ _ e7 (fun ps z => nomatch z)
    refine tsh_use (w := ("meaning" : Str)) (fun N hN => ?_) (fun G8 s2 => ?_)
    · have at_ := atB.extN XD
      have on := onB.extN XD
      have ob := obB.extN XD
      have oo := ooB.extN XD
      obtain ⟨_, dxS, eS⟩ := id at_
      exact ⟨_, rfl, sp, dxS, _, rfl, eS, noF, _, rfl, _, rfl, sp, m, b, .ref tr, vt, true, rfl, at_, ivr.extN XD, (fun _ => ntB.extN XD), fun Hz s2 => ap.wM (hN _ s2)⟩
    have X8 := XD.trans (ExtN.of s2)
    have T8 := Tabs.same TD s2
    have q8 := s2 _ _ eD
    clear eD e7
    clear XD TD xD s2 Y7 U7
    refine ⟨L, _, _, rfl, rfl, q8, by show 7 < sizeLine; decide, ?_⟩
    generalize hX : upd G8 L _ = M8
    have Y8 : LamX.ExtN Hb M8 := by
      rw [← hX]
      exact ExtN.upd X8 nbL
    have U8 : LamX.Tabs TS M8 := by
      rw [← hX]
      exact Tabs.put T8 q8
    have e8 := (congrFun hX L).symm.trans upd_same
    clear hX X8 T8 q8
    refine ⟨_, rfl, vn, dn, rfl, (onB.extN Y8).o.dq, shn, li lnn, dpn, _, _, rfl, rfl, Nat.le_trans (Nat.add_le_add_left lnn _) (by decide +kernel), by show 1 ≤ sizeLine; decide, fun l1 nl1 => ?_⟩
    generalize hX : upd M8 l1 _ = Jl1
    have sl1 : Same M8 Jl1 := by
      rw [← hX]
      exact same_upd nl1
    have el1 := (congrFun hX l1).symm.trans upd_same
    clear hX
    have Xl1 := Y8.trans (ExtN.of sl1)
    have Tl1 := Tabs.same U8 sl1
    refine ⟨l1, 2, _, rfl, rfl, el1, by decide, by decide, by show 2 ≤ sizeLine; decide, fun p2 np2 => ?_⟩
    generalize hX : upd Jl1 p2 _ = Jp2
    have sp2 : Same Jl1 Jp2 := by
      rw [← hX]
      exact same_upd np2
    have ep2 := (congrFun hX p2).symm.trans upd_same
    clear hX
    have Xp2 := Xl1.trans (ExtN.of sp2)
    have Tp2 := Tabs.same Tl1 sp2
    refine ⟨_, rfl, vo, do_, rfl, (ooB.extN Xp2).o.dq, sho, li lno, dpo, _, _, rfl, rfl, Nat.le_trans (Nat.add_le_add_left lno _) (by decide +kernel), by show 2 ≤ sizeLine; decide, fun l3 nl3 => ?_⟩
    generalize hX : upd Jp2 l3 _ = Jl3
    have sl3 : Same Jp2 Jl3 := by
      rw [← hX]
      exact same_upd nl3
    have el3 := (congrFun hX l3).symm.trans upd_same
    clear hX
    have Xl3 := Xp2.trans (ExtN.of sl3)
    have Tl3 := Tabs.same Tp2 sl3
    refine ⟨p2, l3, _, _, rfl, rfl, sl3 _ _ ep2, el3, by show 4 ≤ sizeLine; decide, fun p4 np4 => ?_⟩
    generalize hX : upd Jl3 p4 _ = Jp4
    have sp4 : Same Jl3 Jp4 := by
      rw [← hX]
      exact same_upd np4
    have ep4 := (congrFun hX p4).symm.trans upd_same
    clear hX
    have Xp4 := Xl3.trans (ExtN.of sp4)
    have Tp4 := Tabs.same Tl3 sp4
    refine ⟨by show 1 ≤ sizeLine; decide, fun l5 nl5 => ?_⟩
    generalize hX : upd Jp4 l5 _ = Jl5
    have sl5 : Same Jp4 Jl5 := by
      rw [← hX]
      exact same_upd nl5
    have el5 := (congrFun hX l5).symm.trans upd_same
    clear hX
    have Xl5 := Xp4.trans (ExtN.of sl5)
    have Tl5 := Tabs.same Tp4 sl5
    refine ⟨l5, 4, _, rfl, rfl, el5, by decide, by decide, by show 4 ≤ sizeLine; decide, fun p6 np6 => ?_⟩
    generalize hX : upd Jl5 p6 _ = Jp6
    have sp6 : Same Jl5 Jp6 := by
      rw [← hX]
      exact same_upd np6
    have ep6 := (congrFun hX p6).symm.trans upd_same
    clear hX
    have Xp6 := Xl5.trans (ExtN.of sp6)
    have Tp6 := Tabs.same Tl5 sp6
    refine ⟨p4, p6, _, _, rfl, rfl, (sl5.trans sp6) _ _ ep4, ep6, by show 8 ≤ sizeLine; decide, fun p7 np7 => ?_⟩
    generalize hX : upd Jp6 p7 _ = Jp7
    have sp7 : Same Jp6 Jp7 := by
      rw [← hX]
      exact same_upd np7
    have ep7 := (congrFun hX p7).symm.trans upd_same
    clear hX
    have Xp7 := Xp6.trans (ExtN.of sp7)
    have Tp7 := Tabs.same Tp6 sp7
    have ok1 : ∀ x ∈ ([("number " : Str) ++ dn.shown, ("number " : Str) ++ dn.shown, ("operation" : Str), ("number " : Str) ++ do_.shown, ("meaning" : Str), ("meaning" : Str), ("meaning" : Str), ("meaning" : Str)] : List Str), PyData.strOk x = true := fun x hx => by
      simp only [List.mem_cons, List.not_mem_nil, or_false] at hx
      rcases hx with rfl | rfl | rfl | rfl | rfl | rfl | rfl | rfl <;> first | exact skn | exact sko | decide +kernel
    have eP : Jp7 p7 = some (.lst (([("number " : Str) ++ dn.shown, ("number " : Str) ++ dn.shown, ("operation" : Str), ("number " : Str) ++ do_.shown, ("meaning" : Str), ("meaning" : Str), ("meaning" : Str), ("meaning" : Str)] : List Str).map V.str)) := ep7
    have eQ : M8 L = some (.lst (([("number " : Str) ++ dn.shown, ("number " : Str) ++ dn.shown, ("operation" : Str), ("number " : Str) ++ do_.shown, ("meaning" : Str), ("meaning" : Str), ("meaning" : Str), ("meaning" : Str)] : List Str).map V.str)) := e8
    have sA := sl1.trans (sp2.trans (sl3.trans (sp4.trans (sl5.trans (sp6.trans sp7)))))
    refine ⟨_, rfl, _, rfl, .list (([("number " : Str) ++ dn.shown, ("number " : Str) ++ dn.shown, ("operation" : Str), ("number " : Str) ++ do_.shown, ("meaning" : Str), ("meaning" : Str), ("meaning" : Str), ("meaning" : Str)] : List Str).map .str), .list (([("number " : Str) ++ dn.shown, ("number " : Str) ++ dn.shown, ("operation" : Str), ("number " : Str) ++ do_.shown, ("meaning" : Str), ("meaning" : Str), ("meaning" : Str), ("meaning" : Str)] : List Str).map .str), .lst (.inl (.inl (sA _ _ eQ))) (dps_str _), .lst (.inl (.inl eP)) (dps_str _), shaped_strs ok1, shaped_strs ok1, _, rfl, ?_⟩
    rw [SeqAt.eqv_refl _ (SeqAt.canLay_of_shaped (shaped_strs ok1))]
    refine iteF ?_
    refine ⟨Tp7, fun D9 xD TD => ?_⟩
    have XD := Xp7.trans xD
    refine tsh_use (w := ("number " : Str) ++ do_.shown) (fun N hN => ?_) (fun G9 s2 => ?_)
    · have at_ := atB.extN XD
      have on := onB.extN XD
      have ob := obB.extN XD
      have oo := ooB.extN XD
      obtain ⟨_, dxS, eS⟩ := id at_
      exact ⟨_, rfl, sp, dxS, _, rfl, eS, noF, _, rfl, _, rfl, sp, m, b, vo, vn, rfl, at_, oo.o.pl, on.o.pl, .inl ⟨no_of oo.p, fun d' Hz s2 nd ae => ap.wN (oo.same s2) ae (hN _ s2)⟩⟩
    have X9 := XD.trans (ExtN.of s2)
    have T9 := Tabs.same TD s2
    clear XD TD xD s2 Xp7 Tp7
    refine ⟨by show 1 ≤ sizeLine; decide, fun R nR => ?_⟩
    generalize hX : upd G9 R _ = JR
    have sR : Same G9 JR := by
      rw [← hX]
      exact same_upd nR
    have eR := (congrFun hX R).symm.trans upd_same
    clear hX
    have XR := X9.trans (ExtN.of sR)
    have TR := Tabs.same T9 sR
    have nbR := ExtN.new X9 nR
    refine ⟨_, rfl, .inl ⟨rfl, _, .inl (.inl eR)⟩, ?_⟩
    refine ⟨TR, fun D10 xD TD => ?_⟩
    have XD := XR.trans xD
    have eD := xD _ _ eR (fun ps z => nomatch z)
    refine tsh_use (w := ("number " : Str) ++ do_.shown) (fun N hN => ?_) (fun G10 s2 => ?_)
    · have at_ := atB.extN XD
      have on := onB.extN XD
      have ob := obB.extN XD
      have oo := ooB.extN XD
      obtain ⟨_, dxS, eS⟩ := id at_
      exact ⟨_, rfl, sp, dxS, _, rfl, eS, noF, _, rfl, _, rfl, sp, m, b, vo, vn, rfl, at_, oo.o.pl, on.o.pl, .inl ⟨no_of oo.p, fun d' Hz s2 nd ae => ap.wN (oo.same s2) ae (hN _ s2)⟩⟩
    have X10 := XD.trans (ExtN.of s2)
    have T10 := Tabs.same TD s2
    have q10 := s2 _ _ eD
    clear eD eR
    clear XD TD xD s2 XR TR
    refine ⟨R, _, _, rfl, rfl, q10, by show 1 < sizeLine; decide, ?_⟩
    generalize hX : upd G10 R _ = M10
    have Y10 : LamX.ExtN Hb M10 := by
      rw [← hX]
      exact ExtN.upd X10 nbR
    have U10 : LamX.Tabs TS M10 := by
      rw [← hX]
      exact Tabs.put T10 q10
    have e10 := (congrFun hX R).symm.trans upd_same
    clear hX X10 T10 q10
    refine ⟨_, rfl, .inl ⟨rfl, _, .inl (.inl e10)⟩, ?_⟩
    refine ⟨U10, fun D11 xD TD => ?_⟩
    have XD := Y10.trans xD
    have eD := xD _ _ e10 (fun ps z => nomatch z)
    refine tsh_use (w := ("number " : Str) ++ do_.shown) (fun N hN => ?_) (fun G11 s2 => ?_)
    · have at_ := atB.extN XD
      have on := onB.extN XD
      have ob := obB.extN XD
      have oo := ooB.extN XD
      obtain ⟨_, dxS, eS⟩ := id at_
      exact ⟨_, rfl, sp, dxS, _, rfl, eS, noF, _, rfl, _, rfl, sp, m, b, vo, vn, rfl, at_, oo.o.pl, on.o.pl, .inl ⟨no_of oo.p, fun d' Hz s2 nd ae => ap.wN (oo.same s2) ae (hN _ s2)⟩⟩
    have X11 := XD.trans (ExtN.of s2)
    have T11 := Tabs.same TD s2
    have q11 := s2 _ _ eD
    clear eD e10
    clear XD TD xD s2 Y10 U10
    refine ⟨R, _, _, rfl, rfl, q11, by show 2 < sizeLine; decide, ?_⟩
    generalize hX : upd G11 R _ = M11
    have Y11 : LamX.ExtN Hb M11 := by
      rw [← hX]
      exact ExtN.upd X11 nbR
    have U11 : LamX.Tabs TS M11 := by
      rw [← hX]
      exact Tabs.put T11 q11
    have e11 := (congrFun hX R).symm.trans upd_same
    clear hX X11 T11 q11
    refine ⟨_, rfl, .inl ⟨rfl, _, .inl (.inl e11)⟩, ?_⟩
    refine ⟨U11, fun D12 xD TD => ?_⟩
    have XD := Y11.trans xD
    have eD := xD _ _ e11 (fun ps z => nomatch z)
    refine tsh_use (w := ("number " : Str) ++ do_.shown) (fun N hN => ?_) (fun G12 s2 => ?_)
    · have at_ := atB.extN XD
      have on := onB.extN XD
      have ob := obB.extN XD
      have oo := ooB.extN XD
      obtain ⟨_, dxS, eS⟩ := id at_
      exact ⟨_, rfl, sp, dxS, _, rfl, eS, noF, _, rfl, Z, _, 1, _, rfl, rfl, .inl (.inl (XD _ _ ezB (fun ps z => nomatch z))), at1, _, _, rfl, rfl, _, rfl, sp, m, b, .int (((2 ^ (m * en m b) : Nat) : Int) - 1), vo, rfl, at_, .int _, oo.o.pl, .inr ⟨last_in, no_of oo.p, fun d' Hz s2 nd ae => ap.wN (oo.same s2) ae (hN _ s2)⟩⟩
    have X12 := XD.trans (ExtN.of s2)
    have T12 := Tabs.same TD s2
    have q12 := s2 _ _ eD
    clear eD e11
    clear XD TD xD s2 Y11 U11
    refine ⟨R, _, _, rfl, rfl, q12, by show 3 < sizeLine; decide, ?_⟩
    generalize hX : upd G12 R _ = M12
    have Y12 : LamX.ExtN Hb M12 := by
      rw [← hX]
      exact ExtN.upd X12 nbR
    have U12 : LamX.Tabs TS M12 := by
      rw [← hX]
      exact Tabs.put T12 q12
    have e12 := (congrFun hX R).symm.trans upd_same
    clear hX X12 T12 q12
    refine ⟨_, rfl, .inl ⟨rfl, _, .inl (.inl e12)⟩, ?_⟩
    refine ⟨U12, fun D13 xD TD => ?_⟩
    have XD := Y12.trans xD
    have eD := xD _ _ e12 (fun ps z => nomatch z)
    refine tsh_use (w := ("number " : Str) ++ do_.shown) (fun N hN => ?_) (fun G13 s2 => ?_)
    · have at_ := atB.extN XD
      have on := onB.extN XD
      have ob := obB.extN XD
      have oo := ooB.extN XD
      obtain ⟨_, dxS, eS⟩ := id at_
      exact ⟨_, rfl, sp, dxS, _, rfl, eS, noF, _, rfl, Z, _, 1, _, rfl, rfl, .inl (.inl (XD _ _ ezB (fun ps z => nomatch z))), at1, _, _, rfl, rfl, _, rfl, sp, m, b, .int (((2 ^ (m * en m b) : Nat) : Int) - 1), vo, rfl, at_, .int _, oo.o.pl, .inr ⟨last_in, no_of oo.p, fun d' Hz s2 nd ae => ap.wN (oo.same s2) ae (hN _ s2)⟩⟩
    have X13 := XD.trans (ExtN.of s2)
    have T13 := Tabs.same TD s2
    have q13 := s2 _ _ eD
    clear eD e12
    clear XD TD xD s2 Y12 U12
    refine ⟨R, _, _, rfl, rfl, q13, by show 4 < sizeLine; decide, ?_⟩
    generalize hX : upd G13 R _ = M13
    have Y13 : LamX.ExtN Hb M13 := by
      rw [← hX]
      exact ExtN.upd X13 nbR
    have U13 : LamX.Tabs TS M13 := by
      rw [← hX]
      exact Tabs.put T13 q13
    have e13 := (congrFun hX R).symm.trans upd_same
    clear hX X13 T13 q13
    refine ⟨_, rfl, .inl ⟨rfl, _, .inl (.inl e13)⟩, ?_⟩
    refine ⟨U13, fun D14 xD TD => ?_⟩
    have XD := Y13.trans xD
    have eD := xD _ _ e13 (fun ps z => nomatch z)
    refine tsh_use (w := ("number " : Str) ++ do_.shown) (fun N hN => ?_) (fun G14 s2 => ?_)
    · have at_ := atB.extN XD
      have on := onB.extN XD
      have ob := obB.extN XD
      have oo := ooB.extN XD
      obtain ⟨_, dxS, eS⟩ := id at_
      exact ⟨_, rfl, sp, dxS, _, rfl, eS, noF, _, rfl, Z, _, 1, _, rfl, rfl, .inl (.inl (XD _ _ ezB (fun ps z => nomatch z))), at1, _, _, rfl, rfl, _, rfl, sp, m, b, .int (((2 ^ (m * en m b) : Nat) : Int) - 1), vo, rfl, at_, .int _, oo.o.pl, .inr ⟨last_in, no_of oo.p, fun d' Hz s2 nd ae => ap.wN (oo.same s2) ae (hN _ s2)⟩⟩
    have X14 := XD.trans (ExtN.of s2)
    have T14 := Tabs.same TD s2
    have q14 := s2 _ _ eD
    clear eD e13
    clear XD TD xD s2 Y13 U13
    refine ⟨R, _, _, rfl, rfl, q14, by show 5 < sizeLine; decide, ?_⟩
    generalize hX : upd G14 R _ = M14
    have Y14 : LamX.ExtN Hb M14 := by
      rw [← hX]
      exact ExtN.upd X14 nbR
    have U14 : LamX.Tabs TS M14 := by
      rw [← hX]
      exact Tabs.put T14 q14
    have e14 := (congrFun hX R).symm.trans upd_same
    clear hX X14 T14 q14
    refine ⟨_, rfl, _, rfl, vo, do_, rfl, (ooB.extN Y14).o.dq, sho, li lno, dpo, _, _, rfl, rfl, Nat.le_trans (Nat.add_le_add_left lno _) (by decide +kernel), by show 1 ≤ sizeLine; decide, fun l8 nl8 => ?_⟩
    generalize hX : upd M14 l8 _ = Jl8
    have sl8 : Same M14 Jl8 := by
      rw [← hX]
      exact same_upd nl8
    have el8 := (congrFun hX l8).symm.trans upd_same
    clear hX
    have Xl8 := Y14.trans (ExtN.of sl8)
    have Tl8 := Tabs.same U14 sl8
    refine ⟨l8, 6, _, rfl, rfl, el8, by decide, by decide, by show 6 ≤ sizeLine; decide, fun p9 np9 => ?_⟩
    generalize hX : upd Jl8 p9 _ = Jp9
    have sp9 : Same Jl8 Jp9 := by
      rw [← hX]
      exact same_upd np9
    have ep9 := (congrFun hX p9).symm.trans upd_same
    clear hX
    have Xp9 := Xl8.trans (ExtN.of sp9)
    have Tp9 := Tabs.same Tl8 sp9
    have eP2 : Jp9 p9 = some (.lst (([("number " : Str) ++ do_.shown, ("number " : Str) ++ do_.shown, ("number " : Str) ++ do_.shown, ("number " : Str) ++ do_.shown, ("number " : Str) ++ do_.shown, ("number " : Str) ++ do_.shown] : List Str).map V.str)) := ep9
    have eQ2 : M14 R = some (.lst (([("number " : Str) ++ do_.shown, ("number " : Str) ++ do_.shown, ("number " : Str) ++ do_.shown, ("number " : Str) ++ do_.shown, ("number " : Str) ++ do_.shown, ("number " : Str) ++ do_.shown] : List Str).map V.str)) := e14
    have ok2 : ∀ x ∈ ([("number " : Str) ++ do_.shown, ("number " : Str) ++ do_.shown, ("number " : Str) ++ do_.shown, ("number " : Str) ++ do_.shown, ("number " : Str) ++ do_.shown, ("number " : Str) ++ do_.shown] : List Str), PyData.strOk x = true := fun x hx => by
      simp only [List.mem_cons, List.not_mem_nil, or_false] at hx
      rcases hx with rfl | rfl | rfl | rfl | rfl | rfl <;> exact sko
    refine ⟨.list (([("number " : Str) ++ do_.shown, ("number " : Str) ++ do_.shown, ("number " : Str) ++ do_.shown, ("number " : Str) ++ do_.shown, ("number " : Str) ++ do_.shown, ("number " : Str) ++ do_.shown] : List Str).map .str), .list (([("number " : Str) ++ do_.shown, ("number " : Str) ++ do_.shown, ("number " : Str) ++ do_.shown, ("number " : Str) ++ do_.shown, ("number " : Str) ++ do_.shown, ("number " : Str) ++ do_.shown] : List Str).map .str), .lst (.inl (.inl ((sl8.trans sp9) _ _ eQ2))) (dps_str _), .lst (.inl (.inl eP2)) (dps_str _), shaped_strs ok2, shaped_strs ok2, _, rfl, ?_⟩
    rw [SeqAt.eqv_refl _ (SeqAt.canLay_of_shaped (shaped_strs ok2))]
    refine iteF ?_
    refine ⟨Tp9, fun D15 xD TD => ?_⟩
    have XD := Xp9.trans xD
    refine tsh_use (w := ("" : Str)) (fun N hN => ?_) (fun G15 s2 => ?_)
    · have at_ := atB.extN XD
      have on := onB.extN XD
      have ob := obB.extN XD
      have oo := ooB.extN XD
      obtain ⟨_, dxS, eS⟩ := id at_
      rcases ntB.extN XD with ⟨t, xs, et, sq, at0', few, er⟩ | ⟨nt, _⟩
      · exact ⟨_, rfl, sp, dxS, _, rfl, eS, noF, _, rfl, sp, m, b, vt, rfl, at_, .inl ⟨t, xs, et, sq, at0', few, fun Hz s2 => hN _ s2⟩⟩
      · exact ⟨_, rfl, sp, dxS, _, rfl, eS, noF, _, rfl, sp, m, b, vt, rfl, at_, .inr ⟨nt, hN _ Same.rfl⟩⟩
    have X15 := XD.trans (ExtN.of s2)
    have T15 := Tabs.same TD s2
    clear XD TD xD s2 Xp9 Tp9
    refine ⟨rfl, ?_⟩
    exact q _ ((GoN.of gb).trans (GoN.ext diB X15)) T15
end
end SQ

set_option Elab.async false
set_option linter.all false
set_option maxRecDepth 100000
set_option maxHeartbeats 4000000
namespace SQ
open PySem PySem.Spec PyProof.Rows L2
section
variable {P : Program} {w : World} {K : PySem.W.Frag} {mg : Str → Option Value} {base : Heap}
abbrev N_law_urn : List Str := ["_law_script", "_law_at", "_law_cell", "_law_great", "_law_seed"]
theorem sc_law_urn : FnScope N_law_urn ["_law_script", "_law_at"] (defScope s_law_urn) := ⟨rfl, rfl, rfl, by decide +kernel, rfl, by decide +kernel, by decide +kernel⟩
theorem ok_l_urn {f : Addr} {fd : FuncData} (F : Fun K "_law_urn" "_law_urn" s_law_urn f fd) (T : Nm mg) : FnOk P w K mg base CX0 1 f fd ["_law_script", "_law_at"] (spUrn K) := by
  have nd := sc_law_urn.nd
  refine F.ok sc_law_urn (fun vs H Q E h => ?_) (fun cdv A outer s H vs Q E hr h => ?_)
  · obtain ⟨a, ns, i, rfl, sq, hi, q⟩ := h
    rfl
  · obtain ⟨a, ns, i, rfl, sq, hi, q⟩ := h
    skip
    refine ⟨_, (pss_cons (ps_set (i := 2) nd rfl (Or.inl rfl) (pe_ifExp (pt_cmpR op_lt (pv 1) (pe_callB call_len (by rfl) T.b_len PySem.boot_len (pa_cons (pv 0) pa_nil)) (nomark _)) (pe_ix ix_list (pv 0) (pv 1) (fun _ _ => rfl)) (pe_op op_add (pe_op op_mul pe_int (pv 1)) pe_int)))
  (pss_cons (ps_set (i := 3) nd rfl (Or.inl rfl) (pe_op op_mod (pe_callTy call_int1 (by rfl) T.b_int (by decide +kernel) (pa_cons (pe_callB call_abs (by rfl) T.b_abs (by decide +kernel) (pa_cons (pv 2) pa_nil)) pa_nil)) (pe_op op_powW (pe_op op_pow pe_int pe_int) pe_int)))
  (pss_cons (ps_set (i := 4) nd rfl (Or.inl rfl) (pe_op op_mod (pe_callTy call_int1 (by rfl) T.b_int (by decide +kernel) (pa_cons (pe_op op_add (pe_op op_add (pe_op op_add (pe_op op_mul (pv 3) pe_int) (pe_op op_mul pe_int (pv 1))) (pe_op op_mul pe_int (pe_callTy call_int1 (by rfl) T.b_int (by decide +kernel) (pa_cons (pe_cmpR op_lt (pv 2) pe_int (nomark _)) pa_nil)))) pe_int) pa_nil)) pe_int))
  (pss_one (ps_ret (pe_lst (pa_cons (pe_callB (call_max2 rfl) (by rfl) T.b_max (by decide +kernel) (pa_cons pe_int (pa_cons (pe_op op_sub (pv 3) (pe_op op_pow pe_int pe_int)) pa_nil))) (pa_cons (pv 4) (pa_cons pe_int pa_nil))))))))), ?_⟩

    refine ⟨_, rfl, _, rfl, _, _, rfl, .inl ⟨_, sq, rfl⟩, _, _, rfl, rfl, _, rfl, ite2 (fun e => ?A) (fun _ => ?B)⟩
    case' A =>
      have hl : i < ns.length := by
        have e1 := of_decide_eq_true e
        rw [List.length_map] at e1
        omega
      have g : (ns.map V.int)[i]? = some (.int ns[i]) := by
        rw [List.getElem?_map, List.getElem?_eq_getElem hl]
        rfl
      refine ⟨_, rfl, _, rfl, a, _, (i : Int), _, rfl, rfl, sq, atI_nat g, ?_⟩
      generalize ns[i] = c
    case' B =>
      refine ⟨_, rfl, _, _, rfl, rfl, .inl ⟨by decide, by decide⟩, _, _, rfl, rfl, ?_⟩
      generalize (83 : Int) * (i : Int) + 37 = c
    all_goals
      refine ⟨_, rfl, _, rfl, .inl ⟨_, rfl, ?_⟩⟩
      generalize (if c < 0 then -c else c) = c1
      refine ⟨_, _, rfl, rfl, ⟨by decide, by decide, by decide⟩, _, _, rfl, rfl, ⟨by decide, by decide +kernel⟩, ?_⟩
      refine ⟨_, _, rfl, rfl, Int.pow_pos (Int.pow_pos (by decide)), ?_⟩
      generalize c1 % _ = c2
      refine ⟨_, rfl, _, _, rfl, rfl, .inr ⟨by decide, by decide⟩, ?_⟩
      refine ⟨_, rfl, _, _, rfl, rfl, .inl ⟨by decide, by decide⟩, ?_⟩
      refine ⟨_, _, rfl, rfl, ?_⟩
      refine ⟨_, rfl, _, _, rfl, rfl, .inr ⟨_, rfl, ?_⟩⟩
      refine ⟨_, _, rfl, rfl, .inl ⟨by decide, by decide⟩, _, _, rfl, rfl, _, _, rfl, rfl, .inl ⟨_, rfl, ?_⟩⟩
      refine ⟨_, _, rfl, rfl, (by show (0:Int) < 2305843009213693921; decide), ?_⟩
      refine ⟨_, rfl, _, _, rfl, rfl, ⟨by decide, by decide, by decide⟩, ?_⟩
      refine ⟨_, _, rfl, rfl, _, _, rfl, ?_⟩
      refine ⟨_, rfl, ?_⟩
      refine ⟨(by show 3 ≤ sizeLine; decide), fun p hp => q _ p (same_upd hp) hp ⟨_, _, _, upd_same⟩⟩
end
end SQ

set_option Elab.async false
set_option linter.all false
set_option maxRecDepth 100000
set_option maxHeartbeats 4000000
namespace SQ
open PySem PySem.Spec PyProof.Rows L2 FS
section
variable {P : Program} {w : World} {K : PySem.W.Frag} {mg : Str → Option Value} {base : Heap}
abbrev Nlaw : List Str := ["_law_script", "_law_at", "_law_urn_here", "_law_turn"]
theorem sclaw : FnScope Nlaw ["_law_script"] (defScope slaw) := ⟨rfl, rfl, rfl, by decide +kernel, rfl, by decide +kernel, by decide +kernel⟩
theorem ok_law {f : Addr} {fd : FuncData} (F : Fun K "law" "law" slaw f fd) (T : Nm mg) {TS : List (Addr × Str)} (Cl_urn : Cal P w K mg base 1 "_law_urn" ["_law_script", "_law_at"] (spUrn K)) (Cl_right : CalG P w K mg base 9 "_law_right" ["_law_urn_here"] (spRightM TS)) : FnG P w K mg base CX0 11 f fd ["_law_script"] (spLawM TS K) := by
  have nd := sclaw.nd
  refine F.okG sclaw (fun vs H Q E h => ?_) (fun cdv A outer s H vs Q E gd hr h => ?_)
  · obtain ⟨a, ns, rfl, sq, hlen, tT, q⟩ := h
    rfl
  · obtain ⟨a, ns, rfl, sq, hlen, tT, q⟩ := h
    skip
    refine ⟨_, (pss_cons (ps_for PassesOwn.never rfl (pi_range1 rfl T.b_range (pa_cons (pe_callB (call_max2 rfl) (by rfl) T.b_max (by decide +kernel) (pa_cons pe_int (pa_cons (pe_callB (call_min2 rfl) (by rfl) T.b_min (by decide +kernel) (pa_cons pe_int (pa_cons (pe_callB call_len (by rfl) T.b_len PySem.boot_len (pa_cons (pv 0) pa_nil)) pa_nil))) pa_nil))) pa_nil)) (pg_name (i := 1) nd rfl (Or.inl rfl))
  (pss_cons (ps_set (i := 2) nd rfl (Or.inl rfl) (pe_own Cl_urn (hr.mono (by decide)) (by rfl) (pa_cons (pv 0) (pa_cons (pv 1) pa_nil))))
  (pss_one (ps_for PassesOwn.never rfl (pi_range1 rfl T.b_range (pa_cons pe_int pa_nil)) (pg_name (i := 3) nd rfl (Or.inl rfl))
  (pss_one (ps_if (pt_not (pt_val (pe_ownG Cl_right gd (hr.mono (by decide)) (by rfl) (pa_cons (pv 2) pa_nil))))
  (pss_one (ps_ret pe_bl))
  pss_nil))))))
  (pss_one (ps_ret pe_bl))), ?_⟩

    refine ⟨_, rfl, _, _, rfl, .inl ⟨_, sq, rfl⟩, _, _, rfl, _, _, rfl, ?_⟩
    have hl : (ns.map V.int).length = ns.length := List.length_map _
    rw [hl]
    obtain ⟨m, em, hm⟩ : ∃ m : Nat, (if (if ((ns.length : Nat) : Int) < 8 then ((ns.length : Nat) : Int) else 8) > 1 then (if ((ns.length : Nat) : Int) < 8 then ((ns.length : Nat) : Int) else 8) else 1) = (m : Int) ∧ m ≤ 8 := by
      refine ⟨(if (if ((ns.length : Nat) : Int) < 8 then ((ns.length : Nat) : Int) else 8) > 1 then (if ((ns.length : Nat) : Int) < 8 then ((ns.length : Nat) : Int) else 8) else 1).toNat, ?_, ?_⟩ <;> (split <;> split <;> omega)
    rw [em]
    refine ⟨_, rfl, by omega, by omega, for_rgN (n := m) (fun i σ H' => (∃ y1 y2 y3, σ = [some (.ref a), y1, y2, y3]) ∧ LamX.ExtN H H' ∧ LamX.Tabs TS H') ⟨⟨_, _, _, rfl⟩, .refl H, tT⟩ (fun i σ H1 hi hp => ?_) (fun σ H1 hp => ?_)⟩
    · obtain ⟨⟨y1, y2, y3, rfl⟩, x1, t1⟩ := hp
      refine ⟨_, rfl, _, rfl, a, ns, i, rfl, SqL.extN sq x1, by omega, fun H2 p s2 np dp => ?_⟩
      refine ⟨4, rfl, by decide, by decide, ?_⟩
      refine for_rgN (n := 4) (fun j σ H' => (∃ y3, σ = [some (.ref a), some (.int (i : Int)), some (.ref p), y3]) ∧ GoN p H2 H' ∧ LamX.Tabs TS H') ⟨⟨_, rfl⟩, .refl dp, Tabs.same t1 s2⟩ (fun j σ H3 hj hp => ?_) (fun σ H3 hp => ?_)
      · obtain ⟨⟨y3, rfl⟩, g3, t3⟩ := hp
        refine ⟨_, rfl, p, rfl, g3.2, t3, fun H4 g4 t4 => ⟨_, rfl, iteF ?_⟩⟩
        exact ⟨⟨_, rfl⟩, g3.trans g4, t4⟩
      · obtain ⟨⟨y3, rfl⟩, g3, t3⟩ := hp
        exact ⟨⟨_, _, _, rfl⟩, x1.trans fun b o e n => g3.1 b o (ne_of_none e np) (s2 b o e) n, t3⟩
    · obtain ⟨⟨y1, y2, y3, rfl⟩, x1, t1⟩ := hp
      exact q _
end
end SQ

set_option Elab.async false
set_option linter.all false
set_option maxRecDepth 100000
set_option maxHeartbeats 4000000
namespace SQ
open PySem PySem.Spec PyProof.Rows L2
section
variable {P : Program} {w : World} {K : PySem.W.Frag} {mg : Str → Option Value} {base : Heap}
abbrev Nis_integer_in : List Str := ["value", "least", "greatest"]
theorem scis_integer_in : FnScope Nis_integer_in ["value", "least", "greatest"] (defScope sis_integer_in) := ⟨rfl, rfl, rfl, by decide +kernel, rfl, by decide +kernel, by decide +kernel⟩
theorem ok_is_integer_in {f : Addr} {fd : FuncData} (F : Fun K "is_integer_in" "is_integer_in" sis_integer_in f fd) (T : Nm mg) : FnOk P w K mg base CX0 2 f fd ["value", "least", "greatest"] (spIntIn K) := by
  have nd := scis_integer_in.nd
  refine F.ok scis_integer_in (fun vs H Q E h => ?_) (fun cdv A outer s H vs Q E hr h => ?_)
  · obtain ⟨v, a, b, rfl, pl, q⟩ := h
    rfl
  · obtain ⟨v, a, b, rfl, pl, q⟩ := h
    skip
    refine ⟨_, (pss_one (ps_ret (pe_and (pe_callB call_isi (by rfl) T.b_isinstance (by decide +kernel) (pa_cons (pv 0) (pa_cons (pe_bltn (v := .ty "int") (by rfl) T.b_int (by decide +kernel) rfl) pa_nil))) (pe_and (pe_not (pe_callB call_isi (by rfl) T.b_isinstance (by decide +kernel) (pa_cons (pv 0) (pa_cons (pe_bltn (v := .ty "bool") (by rfl) T.b_bool (by decide +kernel) rfl) pa_nil)))) (pe_one (pe_chain op_le op_le (pv 1) (pv 0) (pv 2))))))), ?_⟩

    cases pl with
    | non =>
      refine ⟨_, rfl, _, _, _, _, false, rfl, .ty "int", .base .non, kit_ty (show kitB "NoneType" "int" = some false by decide +kernel), false, rfl, ?_⟩
      exact q
    | str x =>
      refine ⟨_, rfl, _, _, _, _, false, rfl, .ty "int", .base (.str x), kit_ty (show kitB "str" "int" = some false by decide +kernel), false, rfl, ?_⟩
      exact q
    | bl b' =>
      refine ⟨_, rfl, _, _, _, _, true, rfl, .ty "int", .base (.bl b'), kit_ty (show kitB "bool" "int" = some true by decide +kernel), true, rfl, ?_⟩
      refine ⟨_, rfl, _, _, _, _, true, rfl, .ty "bool", .base (.bl b'), kit_ty (show kitB "bool" "bool" = some true by decide +kernel), true, rfl, ?_⟩
      refine ⟨false, rfl, ?_⟩
      exact q
    | int i =>
      refine ⟨_, rfl, _, _, _, _, true, rfl, .ty "int", .base (.int i), kit_ty (show kitB "int" "int" = some true by decide +kernel), true, rfl, ?_⟩
      refine ⟨_, rfl, _, _, _, _, false, rfl, .ty "bool", .base (.int i), kit_ty (show kitB "int" "bool" = some false by decide +kernel), false, rfl, ?_⟩
      refine ⟨true, rfl, ?_⟩
      refine iteT ?_
      refine ⟨_, rfl, _, rfl, _, _, rfl, rfl, _, rfl, ite2 (fun e1 => ?_) (fun e1 => ?_)⟩
      · refine ⟨_, rfl, _, _, rfl, rfl, ?_⟩
        rw [show inB a b (.int i) = (decide (a ≤ i) && decide (i ≤ b)) from rfl, e1, Bool.true_and] at q
        exact q
      · rw [show inB a b (.int i) = (decide (a ≤ i) && decide (i ≤ b)) from rfl, Bool.not_eq_true _ |>.mp e1, Bool.false_and] at q
        exact q
    | tup e =>
      refine ⟨_, rfl, _, _, _, _, false, rfl, .ty "int", ty_tup e, kit_ty (show kitB "tuple" "int" = some false by decide +kernel), false, rfl, ?_⟩
      exact q
    | lst e =>
      refine ⟨_, rfl, _, _, _, _, false, rfl, .ty "int", .base (.lst e), kit_ty (show kitB "list" "int" = some false by decide +kernel), false, rfl, ?_⟩
      exact q
    | dct e =>
      refine ⟨_, rfl, _, _, _, _, false, rfl, .ty "int", .base (.dK e), kit_ty (show kitB "dict" "int" = some false by decide +kernel), false, rfl, ?_⟩
      exact q
end
end SQ

set_option Elab.async false
set_option linter.all false
set_option maxRecDepth 100000
set_option maxHeartbeats 4000000
namespace SQ
open PySem PySem.Spec PyProof.Rows L2
section
variable {P : Program} {w : World} {K : PySem.W.Frag} {mg : Str → Option Value} {base : Heap}
abbrev Nare_integers_below : List Str := ["values", "limit", "value"]
theorem scare_integers_below : FnScope Nare_integers_below ["values", "limit"] (defScope sare_integers_below) := ⟨rfl, rfl, rfl, by decide +kernel, rfl, by decide +kernel, by decide +kernel⟩
theorem ok_are_integers_below {f : Addr} {fd : FuncData} (F : Fun K "are_integers_below" "are_integers_below" sare_integers_below f fd) (T : Nm mg) : FnOk P w K mg base CX0 1 f fd ["values", "limit"] (spBelow K) := by
  have nd := scare_integers_below.nd
  refine F.ok scare_integers_below (fun vs H Q E h => ?_) (fun cdv A outer s H vs Q E hr h => ?_)
  · obtain ⟨t, xs, n, rfl, sq, at', few, q⟩ := h
    rfl
  · obtain ⟨t, xs, n, rfl, sq, at', few, q⟩ := h
    skip
    refine ⟨_, (pss_one (ps_ret (pe_callB (cr_all rfl) (by rfl) T.b_all (by decide +kernel) (pa_cons (pe_lc (own := [("value", 2)]) (g := gName 2) (tt := tYes) rfl nd (pi_tup (pv 0)) (blkOk_by (own := [("value", 2)]) (N := Nare_integers_below) (sc := defScope sare_integers_below) (by decide +kernel)) (fun _ _ _ _ _ => (pg_name (i := 2) nd rfl (Or.inl rfl))) (fun _ _ _ _ _ => pts_nil) (fun _ _ _ _ _ => (pe_and (pe_callB (call_isiK (K := K) rfl) (by rfl) T.b_isinstance (by decide +kernel) (pa_cons (pv 2) (pa_cons (pe_bltn (v := .ty "int") (by rfl) T.b_int (by decide +kernel) rfl) pa_nil))) (pe_and (pe_not (pe_callB (call_isiK (K := K) rfl) (by rfl) T.b_isinstance (by decide +kernel) (pa_cons (pv 2) (pa_cons (pe_bltn (v := .ty "bool") (by rfl) T.b_bool (by decide +kernel) rfl) pa_nil)))) (pe_one (pe_chain op_le op_lt pe_int (pv 2) (pv 1))))))) pa_nil)))), ?_⟩

    refine ⟨_, rfl, t, rfl, ⟨_, sq⟩, fun D nD => ?_⟩
    refine lcT (xs := xs) xs id (fun _ => true) (fun x y _ => y = .bl (inB 0 ((n : Int) - 1) x)) (List.map_id xs).symm (Rg.same nD) (fun H' s => Same.sqT s sq) (fun _ _ _ _ _ _ h => h) (fun _ _ _ _ _ _ h => h) (by omega) (fun x H1 Ok No hx s1 _ ok _ => ?_) (fun H1 ys s1 e1 al => ?_)
    · rcases at' x hx with rfl | ⟨b', rfl⟩ | ⟨i, rfl⟩
      · refine ⟨rfl, _, rfl, _, _, _, _, false, rfl, .ty "int", .base .non, kit_ty (show kitB "NoneType" "int" = some false by decide +kernel), false, rfl, ?_⟩
        exact ok rfl _ _ Same.rfl rfl
      · refine ⟨rfl, _, rfl, _, _, _, _, true, rfl, .ty "int", .base (.bl b'), kit_ty (show kitB "bool" "int" = some true by decide +kernel), true, rfl, ?_⟩
        refine ⟨_, rfl, _, _, _, _, true, rfl, .ty "bool", .base (.bl b'), kit_ty (show kitB "bool" "bool" = some true by decide +kernel), true, rfl, ?_⟩
        refine ⟨false, rfl, ?_⟩
        exact ok rfl _ _ Same.rfl rfl
      · refine ⟨rfl, _, rfl, _, _, _, _, true, rfl, .ty "int", .base (.int i), kit_ty (show kitB "int" "int" = some true by decide +kernel), true, rfl, ?_⟩
        refine ⟨_, rfl, _, _, _, _, false, rfl, .ty "bool", .base (.int i), kit_ty (show kitB "int" "bool" = some false by decide +kernel), false, rfl, ?_⟩
        refine ⟨true, rfl, ?_⟩
        refine iteT ?_
        have eb : inB 0 ((n : Int) - 1) (.int i) = (decide (0 ≤ i) && decide (i < (n : Int))) := by
          show (decide (0 ≤ i) && decide (i ≤ (n : Int) - 1)) = _
          congr 1
          exact decide_eq_decide.mpr (by omega)
        refine ⟨_, rfl, _, _, rfl, rfl, _, rfl, ite2 (fun e1 => ?_) (fun e1 => ?_)⟩
        · refine ⟨_, rfl, _, _, rfl, rfl, ?_⟩
          refine ok rfl _ _ Same.rfl ?_
          rw [eb, e1, Bool.true_and]
        · refine ok rfl _ _ Same.rfl ?_
          rw [eb, Bool.not_eq_true _ |>.mp e1, Bool.false_and]
    · have e2 := (al.mono (Ψ := fun x y => y = V.bl (inB 0 ((n : Int) - 1) x)) fun _ _ h => h).map
      rw [List.filter_eq_self.mpr (fun _ _ => rfl)] at e2
      refine ⟨D, xs.map (inB 0 ((n : Int) - 1)), rfl, .inl (.inl ?_), ?_⟩
      · rw [e1, e2, List.map_map]
        rfl
      · have z : (xs.map (inB 0 ((n : Int) - 1))).all id = xs.all (inB 0 ((n : Int) - 1)) := by
          rw [List.all_map]
          rfl
        rw [z]
        exact q H1 s1
end
end SQ

set_option Elab.async false
set_option linter.all false
set_option maxRecDepth 100000
set_option maxHeartbeats 4000000
namespace SQ
open PySem PySem.Spec PyProof.Rows L2
section
variable {P : Program} {w : World} {K : PySem.W.Frag} {mg : Str → Option Value} {base : Heap}
abbrev Nsame_of : List Str := ["modes", "ends", "mode"]
theorem scsame_of : FnScope Nsame_of ["modes", "ends"] (defScope ssame_of) := ⟨rfl, rfl, rfl, by decide +kernel, rfl, by decide +kernel, by decide +kernel⟩
theorem ok_same_of {f : Addr} {fd : FuncData} (F : Fun K "same_of" "same_of" ssame_of f fd) (T : Nm mg) : FnOk P w K mg base CX0 1 f fd ["modes", "ends"] (spSame) := by
  have nd := scsame_of.nd
  refine F.ok scsame_of (fun vs H Q E h => ?_) (fun cdv A outer s H vs Q E hr h => ?_)
  · obtain ⟨m, e, rfl, hm, he, q⟩ := h
    rfl
  · obtain ⟨m, e, rfl, hm, he, q⟩ := h
    skip
    refine ⟨_, (pss_one (ps_ret (pe_callB (cr_sum rfl) (by rfl) T.b_sum (by decide +kernel) (pa_cons (pe_lc (own := [("mode", 2)]) (g := gName 2) (tt := tYes) rfl nd (pi_range1 rfl T.b_range (pa_cons (pv 0) pa_nil)) (blkOk_by (own := [("mode", 2)]) (N := Nsame_of) (sc := defScope ssame_of) (by decide +kernel)) (fun _ _ _ _ _ => (pg_name (i := 2) nd rfl (Or.inl rfl))) (fun _ _ _ _ _ => pts_nil) (fun _ _ _ _ _ => (pe_op op_shlNN pe_int (pe_op op_addN (pe_op op_mulN (pv 2) (pv 1)) (pv 2))))) pa_nil)))), ?_⟩

    refine ⟨_, rfl, _, rfl, by omega, by omega, fun D nD => ?_⟩
    refine lcR (n := m) (fun _ => true) (fun i y _ => y = .int ((2 ^ (i * e + i) : Nat) : Int)) (Rg.same nD) (fun _ _ _ _ _ _ h => h) (fun _ _ _ _ _ _ h => h) (by omega) (fun i H1 Ok No hi s1 _ ok _ => ?_) (fun H1 ys s1 e1 al => ?_)
    · have h3 : i * e ≤ 3 * 4 := Nat.mul_le_mul (by omega) he
      refine ⟨rfl, _, rfl, _, rfl, i, e, rfl, rfl, by omega, ?_⟩
      refine ⟨_, rfl, i * e, i, rfl, rfl, 1, i * e + i, rfl, rfl, by decide, by omega, ok rfl _ _ Same.rfl ?_⟩
      rw [Nat.one_mul]
    · have e2 := al.map
      rw [List.filter_eq_self.mpr (fun _ _ => rfl)] at e2
      refine ⟨D, (List.range m).map fun i => ((2 ^ (i * e + i) : Nat) : Int), rfl, .inl (.inl ?_), ?_⟩
      · rw [e1, e2, List.map_map]
        rfl
      · have h2 : ((List.range m).map fun i => ((2 ^ (i * e + i) : Nat) : Int)).sum = ((sameN m e : Nat) : Int) := same_sum m e
        rw [h2]
        exact q H1 s1
end
end SQ

set_option Elab.async false
set_option linter.all false
set_option maxRecDepth 100000
set_option maxHeartbeats 4000000
namespace SQ
open PySem PySem.Spec PyProof.Rows L2
section
variable {P : Program} {w : World} {K : PySem.W.Frag} {mg : Str → Option Value} {base : Heap}
abbrev NSpace__init__ : List Str := ["self", "modes", "watched"]
theorem scSpace__init__ : FnScope NSpace__init__ ["self", "modes", "watched"] (defScope sSpace__init__) := ⟨rfl, rfl, rfl, by decide +kernel, rfl, by decide +kernel, by decide +kernel⟩
theorem ok_Space__init__ {f : Addr} {fd : FuncData} (F : FunD K "__init__" "Space.__init__" (defArgs sSpace__init__) (defBody sSpace__init__) (defScope sSpace__init__) [] [("watched", .bl false)] f fd) (T : Nm mg) {C : Addr} (PC : SpC K mg C) (Cis_integer_in : Cal P w K mg base 2 "is_integer_in" ["value", "least", "greatest"] (spIntIn K)) (Csame_of : Cal P w K mg base 1 "same_of" ["modes", "ends"] spSame) : FnOk P w K mg base CX0 3 f fd ["self", "modes", "watched"] (spInit C) := by
  have nd := scSpace__init__.nd
  refine F.ok scSpace__init__ (fun vs H Q E h => ?_) (fun cdv A outer s H vs Q E hr h => ?_)
  · obtain ⟨p, dx, m, b, rfl, hp, m1, m3, q⟩ := h
    rfl
  · obtain ⟨p, dx, m, b, rfl, hp, m1, m3, q⟩ := h
    obtain ⟨t3, g3⟩ := T.g_MAX_MODES
    refine ⟨_, (pss_cons (ps_if (pt_not (pt_val (pe_own Cis_integer_in (hr.mono (by decide)) (by rfl) (pa_cons (pv 1) (pa_cons pe_int (pa_cons (pe_glob (v := .int 3) (by rfl) g3 ⟨_, rfl⟩) pa_nil))))))
  (pss_one ps_never)
  pss_nil)
  (pss_cons (ps_if (pt_not (pt_val (pe_callB call_isi (by rfl) T.b_isinstance (by decide +kernel) (pa_cons (pv 2) (pa_cons (pe_bltn (v := .ty "bool") (by rfl) T.b_bool (by decide +kernel) rfl) pa_nil)))))
  (pss_one ps_never)
  pss_nil)
  (pss_cons (ps_fld (pv 0) (pv 1) rfl)
  (pss_cons (ps_fld (pv 0) (pv 2) rfl)
  (pss_cons (ps_fld (pv 0) (pe_ifExp (pt_val (pv 2)) (pe_op op_addN (pv 1) pe_int) (pv 1)) rfl)
  (pss_cons (ps_fld (pv 0) (pe_op op_shlNN pe_int (pe_op op_mulN (pv 1) (pe_fld (pv 0) rfl))) rfl)
  (pss_one (ps_fld (pv 0) (pe_own Csame_of (hr.mono (by decide)) (by rfl) (pa_cons (pv 1) (pa_cons (pe_fld (pv 0) rfl) pa_nil))) rfl)))))))), ?_⟩

    have hb : inB 1 3 (.int (m : Int)) = true := by
      show (decide ((1 : Int) ≤ (m : Int)) && decide ((m : Int) ≤ 3)) = true
      rw [decide_eq_true (by omega), decide_eq_true (by omega)]
      rfl
    refine ⟨_, rfl, .int (m : Int), 1, 3, rfl, .int _, ?_⟩
    rw [hb]
    refine ⟨_, rfl, iteF ?_⟩
    refine ⟨_, rfl, _, _, _, _, true, rfl, .ty "bool", .base (.bl b), kit_ty (show kitB "bool" "bool" = some true by decide +kernel), true, rfl, iteF ?_⟩
    have fin : ∀ {H0 H' H'' : Hp} {fs : List (Str × V)} {y : V} {g : Str}, (∀ c o, c ≠ p → H0 c = some o → H' c = some o) → upd H' p (.ins C dx (putF g y fs)) = H'' → (∀ c o, c ≠ p → H0 c = some o → H'' c = some o) ∧ H'' p = some (.ins C dx (putF g y fs)) := fun k h => by
      subst h
      exact ⟨fun c o n e => by rw [upd_ne n]; exact k c o n e, upd_same⟩
    have k0 : ∀ c o, c ≠ p → H c = some o → H c = some o := fun _ _ _ e => e
    refine ⟨_, rfl, _, rfl, p, C, dx, [], rfl, hp, PC.cl, PC.a1, by show 0 < 1000; decide, ?_⟩
    generalize hh : upd H p _ = H1
    obtain ⟨k1, e1⟩ := fin k0 hh
    clear hh k0
    refine ⟨_, rfl, _, rfl, p, C, dx, _, rfl, e1, PC.cl, PC.a2, by show 1 < 1000; decide, ?_⟩
    rw [show putF "_modes" (V.int (m : Int)) [] = [(("_modes" : Str), V.int (m : Int))] from rfl, pf2]
    obtain ⟨k2, e2⟩ := fin (g := "_watched") (y := .bl b) (fs := [("_modes", V.int (m : Int))]) k1 rfl
    rw [pf2] at k2 e2
    generalize upd H1 p _ = H2 at k2 e2 ⊢
    clear k1 e1
    refine ⟨_, rfl, _, rfl, ?_⟩
    have goal : ∀ z : Nat, z = en m b → ∀ G : Prop, (∀ H3, (∀ c o, c ≠ p → H c = some o → H3 c = some o) → H3 p = some (.ins C dx [("_modes", V.int (m : Int)), ("_watched", V.bl b), ("_ends", V.int (z : Int))]) → H3 = upd H2 p (.ins C dx [("_modes", V.int (m : Int)), ("_watched", V.bl b), ("_ends", V.int (z : Int))]) → G) → G := fun z _ G h => by
      obtain ⟨k3, e3⟩ := fin (g := "_ends") (y := V.int (z : Int)) (fs := [("_modes", V.int (m : Int)), ("_watched", V.bl b)]) k2 rfl
      rw [pf3] at k3 e3
      exact h _ k3 e3 rfl
    have big := men_le (b := b) ⟨m1, m3⟩
    have enl := en_le (b := b) ⟨m1, m3⟩
    cases b
    case' true => refine iteT ⟨_, rfl, m, 1, rfl, rfl, ?_⟩
    case' false => refine iteF ⟨_, rfl, ?_⟩
    all_goals
      refine ⟨_, rfl, p, C, dx, _, rfl, e2, PC.cl, PC.a3, by show 2 < 1000; decide, ?_⟩
      rw [pf3]
      first
        | (refine goal (m + 1) rfl _ fun H3 k3 e3 eq => ?_
           rw [← eq])
        | (refine goal m rfl _ fun H3 k3 e3 eq => ?_
           rw [← eq])
      clear eq k2 e2 goal
      refine ⟨_, rfl, _, rfl, p, C, dx, _, _, rfl, e3, PC.cl, PC.a3, lkm1, m, _, rfl, rfl, by omega, 1, _, rfl, rfl, by decide, Nat.le_trans big (by decide), ?_⟩
      refine ⟨_, rfl, p, C, dx, _, rfl, e3, PC.cl, PC.a4, by show 3 < 1000; decide, ?_⟩
      rw [pf4, Nat.one_mul]
      generalize hh : upd H3 p _ = H4
      have e4 := (congrFun hh p).symm.trans upd_same
      have k4 : ∀ c o, c ≠ p → H c = some o → H4 c = some o := fun c o n e => by
        rw [← hh, upd_ne n]
        exact k3 c o n e
      clear hh
      refine ⟨_, rfl, _, rfl, p, C, dx, _, _, rfl, e4, PC.cl, PC.a3, lkm2, m, _, rfl, m3, enl.2, fun H5 s5 => ?_⟩
      have e5 := s5 _ _ e4
      refine ⟨_, rfl, p, C, dx, _, rfl, e5, PC.cl, PC.a5, by show 4 < 1000; decide, ?_⟩
      rw [pf5]
      generalize hh : upd H5 p _ = H6
      have e6 := (congrFun hh p).symm.trans upd_same
      refine q H6 (fun c o n e => ?_) e6
      rw [← hh, upd_ne n]
      exact s5 _ _ (k4 c o n e)
end
end SQ

set_option Elab.async false
set_option linter.all false
set_option maxRecDepth 100000
set_option maxHeartbeats 4000000
namespace SQ
open PySem PySem.Spec PyProof.Rows L2
theorem init_binds {K : PySem.W.Frag} {f : Addr} {fd : FuncData} (F : FunD K "__init__" "Space.__init__" (defArgs sSpace__init__) (defBody sSpace__init__) (defScope sSpace__init__) [] [("watched", .bl false)] f fd) :
    (∃ ds, Vals [V.bl false] ds ∧ Binds K fd ["self", "modes", "watched"] ds) ∧ KBn K fd ["self", "modes", "watched"] 2 ["watched"] (fun us ws => us ++ ws) (fun vs zs => vs ++ zs) := by
  refine ⟨?_, ?_⟩
  · exact F.binds0 (ps := ["self", "modes", "watched"]) 2 (List.cons_ne_nil _ _) rfl fun D doc pm an cdv ct us ks h1 h2 => match us, h1, ks, h2 with
      | [_, _], _, [_], _ => ⟨_, _, _, _, _, _, rfl, rfl, rfl⟩
  · obtain ⟨oc, od, dV, kV, doc, pm, an, cdv, ct, osl, rfl, lk, hcd, hD, hK⟩ := F.ex
    rcases hD with ⟨_, rfl⟩ | ⟨e, _⟩
    · exact ⟨fun s us ws X l1 l2 => match us, l1, ws, l2 with
        | [_, _], _, [_], _ => .of_eq rfl, fun r1 r2 => r1.append r2⟩
    · exact absurd rfl e
end SQ

set_option Elab.async false
set_option linter.all false
set_option maxRecDepth 100000
set_option maxHeartbeats 4000000
namespace SQ
open PySem PySem.Spec PyProof.Rows L2
section
variable {P : Program} {w : World} {K : PySem.W.Frag} {mg : Str → Option Value} {base : Heap}
abbrev NSpaceis_table : List Str := ["self", "value"]
theorem scSpaceis_table : FnScope NSpaceis_table ["self", "value"] (defScope sSpaceis_table) := ⟨rfl, rfl, rfl, by decide +kernel, rfl, by decide +kernel, by decide +kernel⟩
theorem ok_Spaceis_table {f : Addr} {fd : FuncData} (F : Fun K "is_table" "Space.is_table" sSpaceis_table f fd) (T : Nm mg) {C : Addr} (PC : SpC K mg C) (Care_integers_below : Cal P w K mg base 1 "are_integers_below" ["values", "limit"] (spBelow K)) : FnOk P w K mg base CX0 4 f fd ["self", "value"] (spIsTbl C K) := by
  have nd := scSpaceis_table.nd
  refine F.ok scSpaceis_table (fun vs H Q E h => ?_) (fun cdv A outer s H vs Q E hr h => ?_)
  · obtain ⟨p, m, b, v, rfl, sp, q⟩ := h
    rfl
  · obtain ⟨p, m, b, v, rfl, sp, q⟩ := h
    skip
    refine ⟨_, (pss_one (ps_ret (pe_and (pe_callB call_isi (by rfl) T.b_isinstance (by decide +kernel) (pa_cons (pv 1) (pa_cons (pe_bltn (v := .ty "tuple") (by rfl) T.b_tuple (by decide +kernel) rfl) pa_nil))) (pe_and (pe_cmpR op_eq (pe_callB call_len (by rfl) T.b_len PySem.boot_len (pa_cons (pv 1) pa_nil)) (pe_fld (pv 0) rfl) (nomark _)) (pe_one (pe_own Care_integers_below (hr.mono (by decide)) (by rfl) (pa_cons (pv 1) (pa_cons (pe_fld (pv 0) rfl) pa_nil)))))))), ?_⟩

    obtain ⟨mm, dx, e⟩ := sp
    rcases q with ⟨t, xs, rfl, sq, at', few, q⟩ | ⟨no, q⟩
    · refine ⟨_, rfl, _, _, _, _, true, rfl, .ty "tuple", ty_tup sq, kit_ty (by decide +kernel), true, rfl, ?_⟩
      refine ⟨_, rfl, _, _, rfl, .inr ⟨_, sq, rfl⟩, _, rfl, p, C, dx, _, _, rfl, e, PC.cl, PC.a4, lk4, rfl, _, rfl, ?_⟩
      rw [int_dec]
      by_cases hl : xs.length = 2 ^ (m * en m b)
      · rw [decide_eq_true hl]
        refine iteT ?_
        refine ⟨_, rfl, _, rfl, p, C, dx, _, _, rfl, e, PC.cl, PC.a4, lk4, t, xs, 2 ^ (m * en m b), rfl, sq, at', few, fun H1 s1 => ?_⟩
        have := q H1 s1
        rw [decide_eq_true hl, Bool.true_and] at this
        exact this
      · rw [decide_eq_false hl]
        have := q H Same.rfl
        rw [decide_eq_false hl] at this
        exact this
    · have ty : ∃ t, TyX K H v t ∧ PySem.W.kitOne K t (.type "tuple") = some false := by
        cases no with
        | non => exact ⟨_, .base .non, kit_ty (show kitB "NoneType" "tuple" = some false by decide +kernel)⟩
        | int i => exact ⟨_, .base (.int i), kit_ty (show kitB "int" "tuple" = some false by decide +kernel)⟩
        | lst e => exact ⟨_, .base (.lst e), kit_ty (show kitB "list" "tuple" = some false by decide +kernel)⟩
        | dct e => exact ⟨_, .base (.dK e), kit_ty (show kitB "dict" "tuple" = some false by decide +kernel)⟩
      obtain ⟨t, ty, kt⟩ := ty
      exact ⟨_, rfl, _, _, _, _, false, rfl, .ty "tuple", ty, kt, false, rfl, q⟩
end
end SQ

set_option Elab.async false
set_option linter.all false
set_option maxRecDepth 100000
set_option maxHeartbeats 4000000
namespace SQ
open PySem PySem.Spec PyProof.Rows L2
section
variable {P : Program} {w : World} {K : PySem.W.Frag} {mg : Str → Option Value} {base : Heap}
abbrev NSpace_is_relation : List Str := ["self", "value"]
theorem scSpace_is_relation : FnScope NSpace_is_relation ["self", "value"] (defScope sSpace_is_relation) := ⟨rfl, rfl, rfl, by decide +kernel, rfl, by decide +kernel, by decide +kernel⟩
theorem ok_Space_is_relation {f : Addr} {fd : FuncData} (F : Fun K "_is_relation" "Space._is_relation" sSpace_is_relation f fd) (T : Nm mg) {C : Addr} (PC : SpC K mg C) (Cis_integer_in : Cal P w K mg base 2 "is_integer_in" ["value", "least", "greatest"] (spIntIn K)) : FnOk P w K mg base CX0 3 f fd ["self", "value"] (spIsRel C K) := by
  have nd := scSpace_is_relation.nd
  refine F.ok scSpace_is_relation (fun vs H Q E h => ?_) (fun cdv A outer s H vs Q E hr h => ?_)
  · obtain ⟨p, m, b, v, rfl, sp, pl, q⟩ := h
    rfl
  · obtain ⟨p, m, b, v, rfl, sp, pl, q⟩ := h
    skip
    refine ⟨_, (pss_one (ps_ret (pe_own Cis_integer_in (hr.mono (by decide)) (by rfl) (pa_cons (pv 1) (pa_cons pe_int (pa_cons (pe_op op_sub (pe_fld (pv 0) rfl) pe_int) pa_nil)))))), ?_⟩

    obtain ⟨mm, dx, e⟩ := sp
    exact ⟨_, rfl, _, rfl, p, C, dx, _, _, rfl, e, PC.cl, PC.a4, lk4, _, _, rfl, rfl, v, 0, _, rfl, pl, q⟩
end
end SQ

set_option Elab.async false
set_option linter.all false
set_option maxRecDepth 100000
set_option maxHeartbeats 4000000
namespace SQ
open PySem PySem.Spec PyProof.Rows L2 FS
section
variable {P : Program} {w : World} {K : PySem.W.Frag} {mg : Str → Option Value} {base : Heap}
abbrev NSpace_check_relation : List Str := ["self", "value"]
theorem scSpace_check_relation : FnScope NSpace_check_relation ["self", "value"] (defScope sSpace_check_relation) := ⟨rfl, rfl, rfl, by decide +kernel, rfl, by decide +kernel, by decide +kernel⟩
theorem ok_Space_check_relation {f : Addr} {fd : FuncData} (F : Fun K "_check_relation" "Space._check_relation" sSpace_check_relation f fd) (T : Nm mg) {C CN : Addr} (PC : SpC K mg C) (EC : ErrC P w K mg base "InvalidNumber" CN "value") (Mrel : MCal P w K mg base C 3 "_is_relation" ["self", "value"] (spIsRel C K)) : FnOk P w K mg base (L2.CX P w) 5 f fd ["self", "value"] (spChkA C CN K) := by
  have nd := scSpace_check_relation.nd
  refine F.okX scSpace_check_relation (fun vs H Q E h => ?_) (fun cdv A outer s H vs Q E hr h => ?_)
  · obtain ⟨p, m, b, v, rfl, sp, pl, q1, q2⟩ := h
    rfl
  · obtain ⟨p, m, b, v, rfl, sp, pl, q1, q2⟩ := h
    skip
    refine ⟨_, (pss_one (ps_if (pt_not (pt_val (pe_ownM Mrel PC.cl (hr.mono (by decide)) (pv 0) (pa_cons (pv 1) pa_nil))))
  (pss_one (ps_raise rfl (takes_of rfl rfl rfl rfl) (pmk_err EC (hr.mono (by decide)) (by rfl) (pa_cons (pv 1) pa_nil))))
  pss_nil)), ?_⟩

    obtain ⟨mm, dx, e⟩ := sp
    refine ⟨_, rfl, p, dx, _, rfl, e, noF, _, rfl, p, m, b, v, rfl, ⟨mm, dx, e⟩, pl, ?_⟩
    cases hb : inB 0 (szB m b) v with
    | true =>
      refine ⟨_, rfl, ?_⟩
      exact iteF (q1 hb)
    | false =>
      refine ⟨_, rfl, ?_⟩
      refine iteT ⟨_, rfl, v, rfl, fun dx' H' k n at_ => ?_⟩
      exact q2 hb dx' H' k n at_
end
end SQ

set_option Elab.async false
set_option linter.all false
set_option maxRecDepth 100000
set_option maxHeartbeats 4000000
namespace SQ
open PySem PySem.Spec PyProof.Rows L2 FS
section
variable {P : Program} {w : World} {K : PySem.W.Frag} {mg : Str → Option Value} {base : Heap}
abbrev NSpacepairs : List Str := ["self", "relation"]
theorem scSpacepairs : FnScope NSpacepairs ["self", "relation"] (defScope sSpacepairs) := ⟨rfl, rfl, rfl, by decide +kernel, rfl, by decide +kernel, by decide +kernel⟩
theorem ok_Spacepairs {f : Addr} {fd : FuncData} (F : Fun K "pairs" "Space.pairs" sSpacepairs f fd) (T : Nm mg) {C CN : Addr} (PC : SpC K mg C) (Mchk : MCalX P w K mg base C 5 "_check_relation" ["self", "value"] (spChkA C CN K)) (Cpairs_of : Cal P w K mg base 1 "pairs_of" ["relation", "modes", "ends"] spNo) : FnOk P w K mg base (L2.CX P w) 6 f fd ["self", "relation"] (spPairsX C CN K) := by
  have nd := scSpacepairs.nd
  refine F.okX scSpacepairs (fun vs H Q E h => ?_) (fun cdv A outer s H vs Q E hr h => ?_)
  · obtain ⟨p, m, b, v, rfl, sp, pl, bad, q⟩ := h
    rfl
  · obtain ⟨p, m, b, v, rfl, sp, pl, bad, q⟩ := h
    skip
    refine ⟨_, (pss_cons (ps_expr (pe_ownMX Mchk PC.cl (hr.mono (by decide)) lets (pv 0) (pa_cons (pv 1) pa_nil)))
  (pss_one (ps_ret (pe_callTy call_tuple_of (by rfl) T.b_tuple (by decide +kernel) (pa_cons (pe_own Cpairs_of (hr.mono (by decide)) (by rfl) (pa_cons (pv 1) (pa_cons (pe_fld (pv 0) rfl) (pa_cons (pe_fld (pv 0) rfl) pa_nil)))) pa_nil))))), ?_⟩

    obtain ⟨mm, dx, e⟩ := sp
    refine ⟨_, rfl, p, dx, _, rfl, e, noF, _, rfl, p, m, b, v, rfl, ⟨mm, dx, e⟩, pl, fun h => absurd h (by rw [bad]; decide), fun _ => q⟩
end
end SQ

set_option Elab.async false
set_option linter.all false
set_option maxRecDepth 100000
set_option maxHeartbeats 4000000
namespace SQ
open PySem PySem.Spec PyProof.Rows L2 FS
section
variable {P : Program} {w : World} {K : PySem.W.Frag} {mg : Str → Option Value} {base : Heap}
abbrev NSpacefollowed : List Str := ["self", "one", "other"]
theorem scSpacefollowed : FnScope NSpacefollowed ["self", "one", "other"] (defScope sSpacefollowed) := ⟨rfl, rfl, rfl, by decide +kernel, rfl, by decide +kernel, by decide +kernel⟩
theorem ok_Spacefollowed {f : Addr} {fd : FuncData} (F : Fun K "followed" "Space.followed" sSpacefollowed f fd) (T : Nm mg) {C CN : Addr} (PC : SpC K mg C) (Mchk : MCalX P w K mg base C 5 "_check_relation" ["self", "value"] (spChkA C CN K)) (Cfollowed_by : Cal P w K mg base 1 "followed_by" ["one", "other", "modes", "ends"] spNo) : FnOk P w K mg base (L2.CX P w) 6 f fd ["self", "one", "other"] (spTwoX C CN K) := by
  have nd := scSpacefollowed.nd
  refine F.okX scSpacefollowed (fun vs H Q E h => ?_) (fun cdv A outer s H vs Q E hr h => ?_)
  · obtain ⟨p, m, b, v, u, rfl, sp, pv1, pu1, q⟩ := h
    rfl
  · obtain ⟨p, m, b, v, u, rfl, sp, pv1, pu1, q⟩ := h
    skip
    refine ⟨_, (pss_cons (ps_expr (pe_ownMX Mchk PC.cl (hr.mono (by decide)) lets (pv 0) (pa_cons (pv 1) pa_nil)))
  (pss_cons (ps_expr (pe_ownMX Mchk PC.cl (hr.mono (by decide)) lets (pv 0) (pa_cons (pv 2) pa_nil)))
  (pss_one (ps_ret (pe_own Cfollowed_by (hr.mono (by decide)) (by rfl) (pa_cons (pv 1) (pa_cons (pv 2) (pa_cons (pe_fld (pv 0) rfl) (pa_cons (pe_fld (pv 0) rfl) pa_nil))))))))), ?_⟩

    obtain ⟨mm, dx, e⟩ := sp
    rcases q with ⟨bad, q⟩ | ⟨good, bad, q⟩
    · exact ⟨_, rfl, p, dx, _, rfl, e, noF, _, rfl, p, m, b, v, rfl, ⟨mm, dx, e⟩, pv1, fun h => absurd h (by rw [bad]; decide), fun _ => q⟩
    · refine ⟨_, rfl, p, dx, _, rfl, e, noF, _, rfl, p, m, b, v, rfl, ⟨mm, dx, e⟩, pv1, fun _ => ?_, fun h => absurd h (by rw [good]; decide)⟩
      exact ⟨_, rfl, p, dx, _, rfl, e, noF, _, rfl, p, m, b, u, rfl, ⟨mm, dx, e⟩, pu1, fun h => absurd h (by rw [bad]; decide), fun _ => q⟩
end
end SQ

set_option Elab.async false
set_option linter.all false
set_option maxRecDepth 100000
set_option maxHeartbeats 4000000
namespace SQ
open PySem PySem.Spec PyProof.Rows L2 FS
section
variable {P : Program} {w : World} {K : PySem.W.Frag} {mg : Str → Option Value} {base : Heap}
abbrev NSpaceeither : List Str := ["self", "one", "other"]
theorem scSpaceeither : FnScope NSpaceeither ["self", "one", "other"] (defScope sSpaceeither) := ⟨rfl, rfl, rfl, by decide +kernel, rfl, by decide +kernel, by decide +kernel⟩
theorem ok_Spaceeither {f : Addr} {fd : FuncData} (F : Fun K "either" "Space.either" sSpaceeither f fd) (T : Nm mg) {C CN : Addr} (PC : SpC K mg C) (Mchk : MCalX P w K mg base C 5 "_check_relation" ["self", "value"] (spChkA C CN K)) : FnOk P w K mg base (L2.CX P w) 6 f fd ["self", "one", "other"] (spTwoX C CN K) := by
  have nd := scSpaceeither.nd
  refine F.okX scSpaceeither (fun vs H Q E h => ?_) (fun cdv A outer s H vs Q E hr h => ?_)
  · obtain ⟨p, m, b, v, u, rfl, sp, pv1, pu1, q⟩ := h
    rfl
  · obtain ⟨p, m, b, v, u, rfl, sp, pv1, pu1, q⟩ := h
    skip
    refine ⟨_, (pss_cons (ps_expr (pe_ownMX Mchk PC.cl (hr.mono (by decide)) lets (pv 0) (pa_cons (pv 1) pa_nil)))
  (pss_cons (ps_expr (pe_ownMX Mchk PC.cl (hr.mono (by decide)) lets (pv 0) (pa_cons (pv 2) pa_nil)))
  (pss_one (ps_ret (pe_op op_orNN (pv 1) (pv 2)))))), ?_⟩

    obtain ⟨mm, dx, e⟩ := sp
    rcases q with ⟨bad, q⟩ | ⟨good, bad, q⟩
    · exact ⟨_, rfl, p, dx, _, rfl, e, noF, _, rfl, p, m, b, v, rfl, ⟨mm, dx, e⟩, pv1, fun h => absurd h (by rw [bad]; decide), fun _ => q⟩
    · refine ⟨_, rfl, p, dx, _, rfl, e, noF, _, rfl, p, m, b, v, rfl, ⟨mm, dx, e⟩, pv1, fun _ => ?_, fun h => absurd h (by rw [good]; decide)⟩
      exact ⟨_, rfl, p, dx, _, rfl, e, noF, _, rfl, p, m, b, u, rfl, ⟨mm, dx, e⟩, pu1, fun h => absurd h (by rw [bad]; decide), fun _ => q⟩
end
end SQ

set_option Elab.async false
set_option linter.all false
set_option maxRecDepth 100000
set_option maxHeartbeats 4000000
namespace SQ
open PySem PySem.Spec PyProof.Rows L2 FS
section
variable {P : Program} {w : World} {K : PySem.W.Frag} {mg : Str → Option Value} {base : Heap}
abbrev NSpaceis_within : List Str := ["self", "one", "other"]
theorem scSpaceis_within : FnScope NSpaceis_within ["self", "one", "other"] (defScope sSpaceis_within) := ⟨rfl, rfl, rfl, by decide +kernel, rfl, by decide +kernel, by decide +kernel⟩
theorem ok_Spaceis_within {f : Addr} {fd : FuncData} (F : Fun K "is_within" "Space.is_within" sSpaceis_within f fd) (T : Nm mg) {C CN : Addr} (PC : SpC K mg C) (Mchk : MCalX P w K mg base C 5 "_check_relation" ["self", "value"] (spChkA C CN K)) : FnOk P w K mg base (L2.CX P w) 6 f fd ["self", "one", "other"] (spTwoX C CN K) := by
  have nd := scSpaceis_within.nd
  refine F.okX scSpaceis_within (fun vs H Q E h => ?_) (fun cdv A outer s H vs Q E hr h => ?_)
  · obtain ⟨p, m, b, v, u, rfl, sp, pv1, pu1, q⟩ := h
    rfl
  · obtain ⟨p, m, b, v, u, rfl, sp, pv1, pu1, q⟩ := h
    skip
    refine ⟨_, (pss_cons (ps_expr (pe_ownMX Mchk PC.cl (hr.mono (by decide)) lets (pv 0) (pa_cons (pv 1) pa_nil)))
  (pss_cons (ps_expr (pe_ownMX Mchk PC.cl (hr.mono (by decide)) lets (pv 0) (pa_cons (pv 2) pa_nil)))
  (pss_one (ps_ret (pe_cmpR op_eq (pe_op op_orNN (pv 1) (pv 2)) (pv 2) (nomark _)))))), ?_⟩

    obtain ⟨mm, dx, e⟩ := sp
    rcases q with ⟨bad, q⟩ | ⟨good, bad, q⟩
    · exact ⟨_, rfl, p, dx, _, rfl, e, noF, _, rfl, p, m, b, v, rfl, ⟨mm, dx, e⟩, pv1, fun h => absurd h (by rw [bad]; decide), fun _ => q⟩
    · refine ⟨_, rfl, p, dx, _, rfl, e, noF, _, rfl, p, m, b, v, rfl, ⟨mm, dx, e⟩, pv1, fun _ => ?_, fun h => absurd h (by rw [good]; decide)⟩
      exact ⟨_, rfl, p, dx, _, rfl, e, noF, _, rfl, p, m, b, u, rfl, ⟨mm, dx, e⟩, pu1, fun h => absurd h (by rw [bad]; decide), fun _ => q⟩
end
end SQ

set_option Elab.async false
set_option linter.all false
set_option maxRecDepth 100000
set_option maxHeartbeats 4000000
namespace SQ
open PySem PySem.Spec PyProof.Rows L2 FS
section
variable {P : Program} {w : World} {K : PySem.W.Frag} {mg : Str → Option Value} {base : Heap}
abbrev NSpace_check_table : List Str := ["self", "value"]
theorem scSpace_check_table : FnScope NSpace_check_table ["self", "value"] (defScope sSpace_check_table) := ⟨rfl, rfl, rfl, by decide +kernel, rfl, by decide +kernel, by decide +kernel⟩
theorem ok_Space_check_table {f : Addr} {fd : FuncData} (F : Fun K "_check_table" "Space._check_table" sSpace_check_table f fd) (T : Nm mg) {C CM : Addr} (PC : SpC K mg C) (BM : BadE K mg "InvalidMeaning" CM) (Mist : MCal P w K mg base C 4 "is_table" ["self", "value"] (spIsTbl C K)) : FnOk P w K mg base (L2.CX P w) 5 f fd ["self", "value"] (spChkTX C CM K) := by
  have nd := scSpace_check_table.nd
  refine F.okX scSpace_check_table (fun vs H Q E h => ?_) (fun cdv A outer s H vs Q E hr h => ?_)
  · obtain ⟨p, m, b, v, r, rfl, sp, is, q1, q2⟩ := h
    rfl
  · obtain ⟨p, m, b, v, r, rfl, sp, is, q1, q2⟩ := h
    skip
    refine ⟨_, (pss_one (ps_if (pt_not (pt_val (pe_ownM Mist PC.cl (hr.mono (by decide)) (pv 0) (pa_cons (pv 1) pa_nil))))
  (pss_one (ps_raise rfl (takes_of rfl rfl rfl rfl) (pmk_own PySem.F.excBase_ValueError BM.xI BM.g BM.k (raises_own BM.b BM.t) rfl)))
  pss_nil)), ?_⟩

    obtain ⟨mm, dx, e⟩ := sp
    refine ⟨_, rfl, p, dx, _, rfl, e, noF, _, rfl, p, m, b, v, rfl, ⟨mm, dx, e⟩, ?_⟩
    rcases is with ⟨t, xs, rfl, sq, at', few, er⟩ | ⟨no, er⟩
    · refine .inl ⟨t, xs, rfl, sq, at', few, fun H' s' => ?_⟩
      subst er
      cases hb : (decide (xs.length = 2 ^ (m * en m b)) && xs.all (inB 0 (szB m b))) with
      | true => exact ⟨_, rfl, iteF (q1 hb H' s')⟩
      | false => exact ⟨_, rfl, iteT (q2 hb _ s')⟩
    · subst er
      exact .inr ⟨no, _, rfl, iteT (q2 rfl _ Same.rfl)⟩
end
end SQ

set_option Elab.async false
set_option linter.all false
set_option maxRecDepth 100000
set_option maxHeartbeats 4000000
namespace SQ
open PySem PySem.Spec PyProof.Rows L2 FS
section
variable {P : Program} {w : World} {K : PySem.W.Frag} {mg : Str → Option Value} {base : Heap}
abbrev NSpaceis_monotone : List Str := ["self", "table"]
theorem scSpaceis_monotone : FnScope NSpaceis_monotone ["self", "table"] (defScope sSpaceis_monotone) := ⟨rfl, rfl, rfl, by decide +kernel, rfl, by decide +kernel, by decide +kernel⟩
theorem ok_Spaceis_monotone {f : Addr} {fd : FuncData} (F : Fun K "is_monotone" "Space.is_monotone" sSpaceis_monotone f fd) (T : Nm mg) {C CM : Addr} (PC : SpC K mg C) (Mcht : MCalX P w K mg base C 5 "_check_table" ["self", "value"] (spChkTX C CM K)) (Cis_growing : Cal P w K mg base 1 "is_growing" ["table", "bits"] spNo) : FnOk P w K mg base (L2.CX P w) 6 f fd ["self", "table"] (spMonoX C CM K) := by
  have nd := scSpaceis_monotone.nd
  refine F.okX scSpaceis_monotone (fun vs H Q E h => ?_) (fun cdv A outer s H vs Q E hr h => ?_)
  · obtain ⟨p, m, b, v, rfl, sp, is, q⟩ := h
    rfl
  · obtain ⟨p, m, b, v, rfl, sp, is, q⟩ := h
    skip
    refine ⟨_, (pss_cons (ps_expr (pe_ownMX Mcht PC.cl (hr.mono (by decide)) lets (pv 0) (pa_cons (pv 1) pa_nil)))
  (pss_one (ps_ret (pe_own Cis_growing (hr.mono (by decide)) (by rfl) (pa_cons (pv 1) (pa_cons (pe_op op_mulN (pe_fld (pv 0) rfl) (pe_fld (pv 0) rfl)) pa_nil)))))), ?_⟩

    obtain ⟨mm, dx, e⟩ := sp
    exact ⟨_, rfl, p, dx, _, rfl, e, noF, _, rfl, p, m, b, v, false, rfl, ⟨mm, dx, e⟩, is, fun h => absurd h (by decide), fun _ => q⟩
end
end SQ

set_option Elab.async false
set_option linter.all false
set_option maxRecDepth 100000
set_option maxHeartbeats 4000000
namespace SQ
open PySem PySem.Spec PyProof.Rows L2 FS
section
variable {P : Program} {w : World} {K : PySem.W.Frag} {mg : Str → Option Value} {base : Heap}
abbrev NSpacecomposed : List Str := ["self", "one", "other", "relation"]
theorem scSpacecomposed : FnScope NSpacecomposed ["self", "one", "other"] (defScope sSpacecomposed) := ⟨rfl, rfl, rfl, by decide +kernel, rfl, by decide +kernel, by decide +kernel⟩
theorem ok_Spacecomposed {f : Addr} {fd : FuncData} (F : Fun K "composed" "Space.composed" sSpacecomposed f fd) (T : Nm mg) {C CM : Addr} (PC : SpC K mg C) (Mcht : MCalX P w K mg base C 5 "_check_table" ["self", "value"] (spChkTX C CM K)) : FnOk P w K mg base (L2.CX P w) 6 f fd ["self", "one", "other"] (spCompX C CM K) := by
  have nd := scSpacecomposed.nd
  refine F.okX scSpacecomposed (fun vs H Q E h => ?_) (fun cdv A outer s H vs Q E hr h => ?_)
  · obtain ⟨p, m, b, v, u, r, rfl, sp, is, is2, q⟩ := h
    rfl
  · obtain ⟨p, m, b, v, u, r, rfl, sp, is, is2, q⟩ := h
    skip
    refine ⟨_, (pss_cons (ps_expr (pe_ownMX Mcht PC.cl (hr.mono (by decide)) lets (pv 0) (pa_cons (pv 1) pa_nil)))
  (pss_cons (ps_expr (pe_ownMX Mcht PC.cl (hr.mono (by decide)) lets (pv 0) (pa_cons (pv 2) pa_nil)))
  (pss_one (ps_ret (pe_callTy call_tuple_of (by rfl) T.b_tuple (by decide +kernel) (pa_cons (pe_lc (own := [("relation", 3)]) (g := gName 3) (tt := tYes) rfl nd (pi_list (pv 2)) (blkOk_by (own := [("relation", 3)]) (N := NSpacecomposed) (sc := defScope sSpacecomposed) (by decide +kernel)) (fun _ _ _ _ _ => (pg_name (i := 3) nd rfl (Or.inl rfl))) (fun _ _ _ _ _ => pts_nil) (fun _ _ _ _ _ => (pe_ix (ix_listK (K := K) rfl) (pv 1) (pv 3) (fun _ _ => rfl)))) pa_nil)))))), ?_⟩

    obtain ⟨mm, dx, e⟩ := sp
    refine ⟨_, rfl, p, dx, _, rfl, e, noF, _, rfl, p, m, b, v, r, rfl, ⟨mm, dx, e⟩, is, fun h H' s' => ?_, fun _ => q⟩
    exact ⟨_, rfl, p, dx, _, rfl, s' _ _ e, noF, _, rfl, p, m, b, u, false, rfl, ⟨mm, dx, s' _ _ e⟩, (is2 h).same s', fun h => absurd h (by decide), fun _ H2 k => q H2 (Same.trans s' k)⟩
end
end SQ

set_option Elab.async false
set_option linter.all false
set_option maxRecDepth 100000
set_option maxHeartbeats 4000000
namespace SQ
open PySem PySem.Spec PyProof.Rows L2 FS
section
variable {P : Program} {w : World} {K : PySem.W.Frag} {mg : Str → Option Value} {base : Heap}
abbrev NSpace_is_pair : List Str := ["self", "value"]
theorem scSpace_is_pair : FnScope NSpace_is_pair ["self", "value"] (defScope sSpace_is_pair) := ⟨rfl, rfl, rfl, by decide +kernel, rfl, by decide +kernel, by decide +kernel⟩
theorem ok_Space_is_pair {f : Addr} {fd : FuncData} (F : Fun K "_is_pair" "Space._is_pair" sSpace_is_pair f fd) (T : Nm mg) {C : Addr} (PC : SpC K mg C) (Cis_integer_in : Cal P w K mg base 2 "is_integer_in" ["value", "least", "greatest"] (spIntIn K)) : FnOk P w K mg base CX0 3 f fd ["self", "value"] (spIsPairX C K) := by
  have nd := scSpace_is_pair.nd
  refine F.ok scSpace_is_pair (fun vs H Q E h => ?_) (fun cdv A outer s H vs Q E hr h => ?_)
  · obtain ⟨p, m, b, v, r, rfl, sp, is, q⟩ := h
    rfl
  · obtain ⟨p, m, b, v, r, rfl, sp, is, q⟩ := h
    skip
    refine ⟨_, (pss_cons (ps_if (PW.pt (pw_or (pt_not (pt_val (pe_callB call_isi (by rfl) T.b_isinstance (by decide +kernel) (pa_cons (pv 1) (pa_cons (pe_bltn (v := .ty "tuple") (by rfl) T.b_tuple (by decide +kernel) rfl) pa_nil))))) (pw_or1 (pt_cmpR op_ne (pe_callB call_len (by rfl) T.b_len PySem.boot_len (pa_cons (pv 1) pa_nil)) pe_int (nomark _)))))
  (pss_one (ps_ret pe_bl))
  pss_nil)
  (pss_one (ps_ret (pe_and (pe_own Cis_integer_in (hr.mono (by decide)) (by rfl) (pa_cons (pe_ix ix_tup (pv 1) pe_int (fun _ _ => rfl)) (pa_cons pe_int (pa_cons (pe_op op_sub (pe_fld (pv 0) rfl) pe_int) pa_nil)))) (pe_one (pe_own Cis_integer_in (hr.mono (by decide)) (by rfl) (pa_cons (pe_ix ix_tup (pv 1) pe_int (fun _ _ => rfl)) (pa_cons pe_int (pa_cons (pe_op op_sub (pe_fld (pv 0) rfl) pe_int) pa_nil))))))))), ?_⟩

    obtain ⟨mm, dx, e⟩ := sp
    cases is with
    | non => exact ⟨_, rfl, _, _, _, _, false, rfl, .ty "tuple", .base .non, kit_ty (show kitB "NoneType" "tuple" = some false by decide +kernel), false, rfl, iteT q⟩
    | int i => exact ⟨_, rfl, _, _, _, _, false, rfl, .ty "tuple", .base (.int i), kit_ty (show kitB "int" "tuple" = some false by decide +kernel), false, rfl, iteT q⟩
    | lst h => exact ⟨_, rfl, _, _, _, _, false, rfl, .ty "tuple", .base (.lst h), kit_ty (show kitB "list" "tuple" = some false by decide +kernel), false, rfl, iteT q⟩
    | @few t xs sq n z =>
      refine ⟨_, rfl, _, _, _, _, true, rfl, .ty "tuple", ty_tup sq, kit_ty (by decide +kernel), true, rfl, iteF ?_⟩
      refine ⟨_, rfl, _, _, rfl, .inr ⟨_, sq, rfl⟩, rfl, _, rfl, ?_⟩
      rw [show decide (V.int (xs.length : Int) = V.int 2) = false from decide_eq_false fun h => n (by have := V.int.inj h; omega)]
      exact iteT q
    | @two t x y sq px py =>
      refine ⟨_, rfl, _, _, _, _, true, rfl, .ty "tuple", ty_tup sq, kit_ty (by decide +kernel), true, rfl, iteF ?_⟩
      refine ⟨_, rfl, _, _, rfl, .inr ⟨_, sq, rfl⟩, rfl, _, rfl, iteF ?_⟩
      refine ⟨_, rfl, t, _, 0, _, rfl, rfl, sq, at0, _, rfl, p, C, dx, _, _, rfl, e, PC.cl, PC.a1, lk1, _, _, rfl, rfl, x, 0, _, rfl, px, ?_⟩
      cases h1 : inB 0 ((m : Int) - 1) x with
      | false =>
        rw [h1] at q
        exact ⟨_, rfl, q⟩
      | true =>
        rw [h1] at q
        refine ⟨_, rfl, iteT ?_⟩
        exact ⟨_, rfl, t, _, 1, _, rfl, rfl, sq, at1, _, rfl, p, C, dx, _, _, rfl, e, PC.cl, PC.a3, lk3, _, _, rfl, rfl, y, 0, _, rfl, py, q⟩
end
end SQ

set_option Elab.async false
set_option linter.all false
set_option maxRecDepth 100000
set_option maxHeartbeats 4000000
namespace SQ
open PySem PySem.Spec PyProof.Rows L2 FS
section
variable {P : Program} {w : World} {K : PySem.W.Frag} {mg : Str → Option Value} {base : Heap}
abbrev NSpacerelation : List Str := ["self", "pairs", "pair", "mode", "end"]
theorem scSpacerelation : FnScope NSpacerelation ["self", "pairs"] (defScope sSpacerelation) := ⟨rfl, rfl, rfl, by decide +kernel, rfl, by decide +kernel, by decide +kernel⟩
theorem ok_Spacerelation {f : Addr} {fd : FuncData} (F : Fun K "relation" "Space.relation" sSpacerelation f fd) (T : Nm mg) {C CM : Addr} (PC : SpC K mg C) (BM : BadE K mg "InvalidMeaning" CM) (Mpair : MCal P w K mg base C 3 "_is_pair" ["self", "value"] (spIsPairX C K)) : FnOk P w K mg base (L2.CX P w) 5 f fd ["self", "pairs"] (spRelX C CM K) := by
  have nd := scSpacerelation.nd
  refine F.okX scSpacerelation (fun vs H Q E h => ?_) (fun cdv A outer s H vs Q E hr h => ?_)
  · obtain ⟨p, m, b, v, rfl, sp, no, q⟩ := h
    rfl
  · obtain ⟨p, m, b, v, rfl, sp, no, q⟩ := h
    skip
    refine ⟨_, (pss_cons (ps_if (PW.pt (pw_or (pt_not (pt_val (pe_callB call_isi (by rfl) T.b_isinstance (by decide +kernel) (pa_cons (pv 1) (pa_cons (pe_bltn (v := .ty "tuple") (by rfl) T.b_tuple (by decide +kernel) rfl) pa_nil))))) (pw_or1 (pt_not (pt_val (pe_callB (cr_all rfl) (by rfl) T.b_all (by decide +kernel) (pa_cons (pe_lc (own := [("pair", 2)]) (g := gName 2) (tt := tYes) rfl nd (pi_tup (pv 1)) (blkOk_by (own := [("pair", 2)]) (N := NSpacerelation) (sc := defScope sSpacerelation) (by decide +kernel)) (fun _ _ _ _ _ => (pg_name (i := 2) nd rfl (Or.inl rfl))) (fun _ _ _ _ _ => pts_nil) (fun _ _ _ _ _ => (pe_ownM Mpair PC.cl (hr.mono (by decide)) (pv 0) (pa_cons (pv 2) pa_nil)))) pa_nil)))))))
  (pss_one (ps_raise rfl (takes_of rfl rfl rfl rfl) (pmk_own PySem.F.excBase_ValueError BM.xI BM.g BM.k (raises_own BM.b BM.t) rfl)))
  pss_nil)
  (pss_cons (ps_if (pt_cmpR op_ne (pe_lenSetD rfl hr.units (by rfl) T.b_len (by rfl) T.b_set (pv 1)) (pe_callB call_len (by rfl) T.b_len PySem.boot_len (pa_cons (pv 1) pa_nil)) (nomark _))
  (pss_one (ps_raise rfl (takes_of rfl rfl rfl rfl) (pmk_own PySem.F.excBase_ValueError BM.xI BM.g BM.k (raises_own BM.b BM.t) rfl)))
  pss_nil)
  (pss_one (ps_ret (pe_callB (cr_sum rfl) (by rfl) T.b_sum (by decide +kernel) (pa_cons (pe_lc (own := [("mode", 3), ("end", 4)]) (g := gTup K 2 (gCons (gName 3) (gCons (gName 4) gNil))) (tt := tYes) rfl nd (pi_tup (pv 1)) (blkOk_by (own := [("mode", 3), ("end", 4)]) (N := NSpacerelation) (sc := defScope sSpacerelation) (by decide +kernel)) (fun _ _ _ _ _ => (pg_tup rfl (pgs_cons (pg_name (i := 3) nd rfl (Or.inl rfl)) (pgs_cons (pg_name (i := 4) nd rfl (Or.inl rfl)) pgs_nil)))) (fun _ _ _ _ _ => pts_nil) (fun _ _ _ _ _ => (pe_op op_shlNN pe_int (pe_op op_addN (pe_op op_mulN (pv 3) (pe_fldK (K := K) rfl (pv 0) rfl)) (pv 4))))) pa_nil)))))), ?_⟩

    obtain ⟨mm, dx, e⟩ := sp
    cases no with
    | not h =>
      have ty : ∃ t, TyX K H v t ∧ PySem.W.kitOne K t (.type "tuple") = some false := by
        cases h with
        | non => exact ⟨_, .base .non, kit_ty (show kitB "NoneType" "tuple" = some false by decide +kernel)⟩
        | int i => exact ⟨_, .base (.int i), kit_ty (show kitB "int" "tuple" = some false by decide +kernel)⟩
        | lst e => exact ⟨_, .base (.lst e), kit_ty (show kitB "list" "tuple" = some false by decide +kernel)⟩
        | dct e => exact ⟨_, .base (.dK e), kit_ty (show kitB "dict" "tuple" = some false by decide +kernel)⟩
      obtain ⟨t, ty, kt⟩ := ty
      exact ⟨_, rfl, _, _, _, _, false, rfl, .ty "tuple", ty, kt, false, rfl, iteT (q _ Same.rfl)⟩
    | @bad t xs rs sq few len all no =>
      refine ⟨_, rfl, _, _, _, _, true, rfl, .ty "tuple", ty_tup sq, kit_ty (by decide +kernel), true, rfl, iteF ?_⟩
      refine ⟨_, rfl, t, rfl, ⟨_, sq⟩, fun D nD => ?_⟩
      refine lc_tup (xs := xs) (fun i H' => Same H H' ∧ H' D = some (.lst ((rs.take i).map V.bl))) ⟨same_upd nD, upd_same⟩ (fun i H' _ h => Same.sqT h.1 sq) (fun i x H1 hx hp => ?_) (fun H1 hp => ?_)
      · obtain ⟨s1, eD⟩ := hp
        have lt : i < xs.length := (List.getElem?_eq_some_iff.mp hx).1
        have hr1 : rs[i]? = some rs[i] := List.getElem?_eq_getElem (by omega)
        refine ⟨rfl, _, rfl, p, dx, _, rfl, s1 _ _ e, noF, _, rfl, p, m, b, x, rs[i], rfl, ⟨mm, dx, s1 _ _ e⟩, (all i x _ hx hr1).same s1, _, eD, ?_, Same.set s1 nD, ?_⟩
        · rw [List.length_map, List.length_take, sizeLine_eq]
          omega
        · rw [upd_same, take_next hr1, List.map_append]
          rfl
      · obtain ⟨s1, eD⟩ := hp
        rw [← len, List.take_length] at eD
        refine ⟨D, rs, rfl, .inl (.inl eD), ?_⟩
        rw [no]
        exact ⟨_, rfl, iteT (q _ s1)⟩
    | @twice t t1 t2 pr sq h1 h2 p1 p2 =>
      have i1 : inB 0 ((m : Int) - 1) (.int (pr.1 : Int)) = true := by
        show (decide ((0 : Int) ≤ (pr.1 : Int)) && decide ((pr.1 : Int) ≤ _)) = true
        rw [decide_eq_true (by omega), decide_eq_true (by omega)]
        rfl
      have i2 : inB 0 ((en m b : Int) - 1) (.int (pr.2 : Int)) = true := by
        show (decide ((0 : Int) ≤ (pr.2 : Int)) && decide ((pr.2 : Int) ≤ _)) = true
        rw [decide_eq_true (by omega), decide_eq_true (by omega)]
        rfl
      have good : ∀ {H' : Hp} {t' : Addr}, SqT K H' t' (prV pr) → IsP K H' m (en m b) (.ref t') true := fun {H' t'} h => by
        have := IsP.two (m := m) (e := en m b) h (.int _) (.int _)
        rw [i1, i2] at this
        exact this
      refine ⟨_, rfl, _, _, _, _, true, rfl, .ty "tuple", ty_tup sq, kit_ty (by decide +kernel), true, rfl, iteF ?_⟩
      refine ⟨_, rfl, t, rfl, ⟨_, sq⟩, fun D nD => ?_⟩
      refine lc_tup (xs := [V.ref t1, V.ref t2]) (fun i H' => Same H H' ∧ H' D = some (.lst (List.replicate i (V.bl true)))) ⟨same_upd nD, upd_same⟩ (fun i H' _ h => Same.sqT h.1 sq) (fun i x H1 hx hp => ?_) (fun H1 hp => ?_)
      · obtain ⟨s1, eD⟩ := hp
        have lt : i < 2 := (List.getElem?_eq_some_iff.mp hx).1
        have isP : IsP K H1 m (en m b) x true := by
          match i, hx with
          | 0, hx => rw [← Option.some.inj hx]; exact good (Same.sqT s1 h1)
          | 1, hx => rw [← Option.some.inj hx]; exact good (Same.sqT s1 h2)
        refine ⟨rfl, _, rfl, p, dx, _, rfl, s1 _ _ e, noF, _, rfl, p, m, b, x, true, rfl, ⟨mm, dx, s1 _ _ e⟩, isP, _, eD, ?_, Same.set s1 nD, ?_⟩
        · rw [List.length_replicate, sizeLine_eq]
          omega
        · rw [upd_same, List.replicate_succ']
      · obtain ⟨s1, eD⟩ := hp
        refine ⟨D, [true, true], rfl, .inl (.inl eD), ?_⟩
        refine ⟨_, rfl, iteF ?_⟩
        refine ⟨_, rfl, t, [(t1, [(pr.1 : Int), (pr.2 : Int)]), (t2, [(pr.1 : Int), (pr.2 : Int)])], [(pr.1 : Int), (pr.2 : Int)], rfl, Same.sqT s1 sq, fun z hz => ?_, List.cons_ne_nil _ _, by show 2 < 64; decide, ?_⟩
        · rcases List.mem_cons.mp hz with rfl | hz
          · exact ⟨Same.sqT s1 h1, rfl⟩
          · cases List.mem_singleton.mp hz
            exact ⟨Same.sqT s1 h2, rfl⟩
        · refine ⟨_, rfl, _, _, rfl, .inr ⟨_, Same.sqT s1 sq, rfl⟩, rfl, _, rfl, ?_⟩
          exact iteT (q _ s1)
end
end SQ

set_option Elab.async false
set_option linter.all false
set_option maxRecDepth 100000
set_option maxHeartbeats 4000000
namespace SQ
open PySem PySem.Spec PyProof.Rows L2 FS
section
variable {P : Program} {w : World} {K : PySem.W.Frag} {mg : Str → Option Value} {base : Heap}
abbrev NXSpace__init__ : List Str := ["self", "modes", "watched"]
theorem scXSpace__init__ : FnScope NXSpace__init__ ["self", "modes", "watched"] (defScope sSpace__init__) := ⟨rfl, rfl, rfl, by decide +kernel, rfl, by decide +kernel, by decide +kernel⟩
theorem okX_Space__init__ {f : Addr} {fd : FuncData} (F : FunD K "__init__" "Space.__init__" (defArgs sSpace__init__) (defBody sSpace__init__) (defScope sSpace__init__) [] [("watched", .bl false)] f fd) (T : Nm mg) {C CN CO : Addr} (PC : SpC K mg C) (EC : ErrC P w K mg base "InvalidNumber" CN "value") (BO : BadE K mg "InvalidOperation" CO) (Cis_integer_in : Cal P w K mg base 2 "is_integer_in" ["value", "least", "greatest"] (spIntIn K)) (Csame_of : Cal P w K mg base 1 "same_of" ["modes", "ends"] spNo) : FnOk P w K mg base (L2.CX P w) 3 f fd ["self", "modes", "watched"] (spInitX C CN CO K) := by
  have nd := scXSpace__init__.nd
  refine F.ok scXSpace__init__ (fun vs H Q E h => ?_) (fun cdv A outer s H vs Q E hr h => ?_)
  · obtain ⟨p, dx, v, u, rfl, hp, pv1, pu1, q⟩ := h
    rfl
  · obtain ⟨p, dx, v, u, rfl, hp, pv1, pu1, q⟩ := h
    obtain ⟨t3, g3⟩ := T.g_MAX_MODES
    refine ⟨_, (pss_cons (ps_if (pt_not (pt_val (pe_own Cis_integer_in (hr.mono (by decide)) (by rfl) (pa_cons (pv 1) (pa_cons pe_int (pa_cons (pe_glob (v := .int 3) (by rfl) g3 ⟨_, rfl⟩) pa_nil))))))
  (pss_one (ps_raise rfl (takes_of rfl rfl rfl rfl) (pmk_err EC (hr.mono (by decide)) (by rfl) (pa_cons (pv 1) pa_nil))))
  pss_nil)
  (pss_cons (ps_if (pt_not (pt_val (pe_callB call_isi (by rfl) T.b_isinstance (by decide +kernel) (pa_cons (pv 2) (pa_cons (pe_bltn (v := .ty "bool") (by rfl) T.b_bool (by decide +kernel) rfl) pa_nil)))))
  (pss_one (ps_raise rfl (takes_of rfl rfl rfl rfl) (pmk_own PySem.F.excBase_ValueError BO.xI BO.g BO.k (raises_own BO.b BO.t) rfl)))
  pss_nil)
  (pss_cons (ps_fld (pv 0) (pv 1) rfl)
  (pss_cons (ps_fld (pv 0) (pv 2) rfl)
  (pss_cons (ps_fld (pv 0) (pe_ifExp (pt_val (pv 2)) (pe_op op_addN (pv 1) pe_int) (pv 1)) rfl)
  (pss_cons (ps_fld (pv 0) (pe_op op_shlNN pe_int (pe_op op_mulN (pv 1) (pe_fld (pv 0) rfl))) rfl)
  (pss_one (ps_fld (pv 0) (pe_own Csame_of (hr.mono (by decide)) (by rfl) (pa_cons (pv 1) (pa_cons (pe_fld (pv 0) rfl) pa_nil))) rfl)))))))), ?_⟩

    rcases q with ⟨bad, q⟩ | ⟨good, bad, q⟩
    · refine ⟨_, rfl, v, 1, 3, rfl, pv1, ?_⟩
      rw [bad]
      exact ⟨_, rfl, iteT ⟨_, rfl, v, rfl, fun d' H' k n at_ => q d' H' k n at_⟩⟩
    · refine ⟨_, rfl, v, 1, 3, rfl, pv1, ?_⟩
      rw [good]
      refine ⟨_, rfl, iteF ?_⟩
      have ty : ∃ t, TyX K H u t ∧ PySem.W.kitOne K t (.type "bool") = some false := by
        cases pu1 with
        | non => exact ⟨_, .base .non, kit_ty (show kitB "NoneType" "bool" = some false by decide +kernel)⟩
        | bl b => cases bad
        | int i => exact ⟨_, .base (.int i), kit_ty (show kitB "int" "bool" = some false by decide +kernel)⟩
        | str x => exact ⟨_, .base (.str x), kit_ty (show kitB "str" "bool" = some false by decide +kernel)⟩
        | tup e => exact ⟨_, ty_tup e, kit_ty (show kitB "tuple" "bool" = some false by decide +kernel)⟩
        | lst e => exact ⟨_, .base (.lst e), kit_ty (show kitB "list" "bool" = some false by decide +kernel)⟩
        | dct e => exact ⟨_, .base (.dK e), kit_ty (show kitB "dict" "bool" = some false by decide +kernel)⟩
      obtain ⟨t, ty, kt⟩ := ty
      exact ⟨_, rfl, _, _, _, _, false, rfl, .ty "bool", ty, kt, false, rfl, iteT (q _ Same.rfl)⟩
end
end SQ

set_option Elab.async false
set_option linter.all false
set_option maxRecDepth 100000
set_option maxHeartbeats 8000000
namespace SQ
open PySem PySem.Spec PyProof.Rows L2 LamX FS
theorem all_mk {l : PySem.W.OpenLaw} {w : World} {K : PySem.W.Frag} {h : Heap} {mg : Str → Option Value} {fa C CM CO CN cR PR kD f1 f2 f3 f4 f5 f6 f7 f8 f9 f10 f11 f12 f13 f14 f15 f16 f17 f18 f19 f20 f21 f22 f23 f24 f25 f26 f27 : Addr} (X : K.In h) (G : h.Ns mainGlobals mg) (hfa : mg "law" = some (.ref fa))
    {od1 an1 od2 an2 od3 an3 od4 an4 od5 an5 od6 an6 od7 an7 od8 an8 od9 an9 od10 an10 od11 an11 od12 an12 od13 an13 od14 an14 od15 an15 od16 an16 od17 an17 od18 an18 od19 an19 od20 an20 od21 an21 od22 an22 od23 an23 od24 an24 od25 an25 od26 an26 od27 an27 : Option Addr} {sl1 sl2 sl3 sl4 sl5 sl6 sl7 sl8 sl9 sl10 sl11 sl12 sl13 sl14 sl15 sl16 sl17 sl18 sl19 sl20 sl21 sl22 sl23 sl24 sl25 sl26 sl27 : Array (Option Value)} {oc1 dc1 pm1 ct1 cd1 kV1 oc2 dc2 pm2 ct2 cd2 kV2 oc3 dc3 pm3 ct3 cd3 kV3 oc4 dc4 pm4 ct4 cd4 kV4 oc5 dc5 pm5 ct5 cd5 kV5 oc6 dc6 pm6 ct6 cd6 kV6 oc7 dc7 pm7 ct7 cd7 kV7 oc8 dc8 pm8 ct8 cd8 kV8 oc9 dc9 pm9 ct9 cd9 kV9 oc10 dc10 pm10 ct10 cd10 kV10 oc11 dc11 pm11 ct11 cd11 kV11 oc12 dc12 pm12 ct12 kV12 oc13 dc13 pm13 ct13 cd13 kV13 oc14 dc14 pm14 ct14 cd14 oc15 dc15 pm15 ct15 cd15 kV15 oc16 dc16 pm16 ct16 cd16 kV16 oc17 dc17 pm17 ct17 cd17 kV17 oc18 dc18 pm18 ct18 cd18 kV18 oc19 dc19 pm19 ct19 cd19 kV19 oc20 dc20 pm20 ct20 cd20 kV20 oc21 dc21 pm21 ct21 cd21 kV21 oc22 dc22 pm22 ct22 cd22 kV22 oc23 dc23 pm23 ct23 cd23 kV23 oc24 dc24 pm24 ct24 cd24 kV24 oc25 dc25 pm25 ct25 cd25 kV25 oc26 dc26 pm26 ct26 cd26 kV26 oc27 dc27 pm27 ct27 cd27 kV27 : Value} {t_M : Tok}
    (a1 : PySem.W.nsIn K mainGlobals "is_integer_in" = some (some (.ref f1)))
    (l1 : K.lookup f1 = some ⟨oc1, od1, .func (PySem.W.fnOf "is_integer_in" "is_integer_in" (defArgs sis_integer_in) (defBody sis_integer_in) (defScope sis_integer_in) .none kV1 dc1 pm1 an1 cd1 ct1), sl1⟩)
    (c1 : PySem.W.codeIn K cd1 "is_integer_in" = true)
    (k1 : PySem.W.keepIn K (.ref f1) = true)
    (a2 : PySem.W.nsIn K mainGlobals "are_integers_below" = some (some (.ref f2)))
    (l2 : K.lookup f2 = some ⟨oc2, od2, .func (PySem.W.fnOf "are_integers_below" "are_integers_below" (defArgs sare_integers_below) (defBody sare_integers_below) (defScope sare_integers_below) .none kV2 dc2 pm2 an2 cd2 ct2), sl2⟩)
    (c2 : PySem.W.codeIn K cd2 "are_integers_below" = true)
    (k2 : PySem.W.keepIn K (.ref f2) = true)
    (a3 : PySem.W.nsIn K mainGlobals "pairs_of" = some (some (.ref f3)))
    (l3 : K.lookup f3 = some ⟨oc3, od3, .func (PySem.W.fnOf "pairs_of" "pairs_of" (defArgs spairs_of) (defBody spairs_of) (defScope spairs_of) .none kV3 dc3 pm3 an3 cd3 ct3), sl3⟩)
    (c3 : PySem.W.codeIn K cd3 "pairs_of" = true)
    (k3 : PySem.W.keepIn K (.ref f3) = true)
    (a4 : PySem.W.nsIn K mainGlobals "same_of" = some (some (.ref f4)))
    (l4 : K.lookup f4 = some ⟨oc4, od4, .func (PySem.W.fnOf "same_of" "same_of" (defArgs ssame_of) (defBody ssame_of) (defScope ssame_of) .none kV4 dc4 pm4 an4 cd4 ct4), sl4⟩)
    (c4 : PySem.W.codeIn K cd4 "same_of" = true)
    (k4 : PySem.W.keepIn K (.ref f4) = true)
    (a5 : PySem.W.nsIn K mainGlobals "followed_by" = some (some (.ref f5)))
    (l5 : K.lookup f5 = some ⟨oc5, od5, .func (PySem.W.fnOf "followed_by" "followed_by" (defArgs sfollowed_by) (defBody sfollowed_by) (defScope sfollowed_by) .none kV5 dc5 pm5 an5 cd5 ct5), sl5⟩)
    (c5 : PySem.W.codeIn K cd5 "followed_by" = true)
    (k5 : PySem.W.keepIn K (.ref f5) = true)
    (a6 : PySem.W.nsIn K mainGlobals "is_growing" = some (some (.ref f6)))
    (l6 : K.lookup f6 = some ⟨oc6, od6, .func (PySem.W.fnOf "is_growing" "is_growing" (defArgs sis_growing) (defBody sis_growing) (defScope sis_growing) .none kV6 dc6 pm6 an6 cd6 ct6), sl6⟩)
    (c6 : PySem.W.codeIn K cd6 "is_growing" = true)
    (k6 : PySem.W.keepIn K (.ref f6) = true)
    (a7 : PySem.W.nsIn K mainGlobals "_law_urn" = some (some (.ref f7)))
    (l7 : K.lookup f7 = some ⟨oc7, od7, .func (PySem.W.fnOf "_law_urn" "_law_urn" (defArgs s_law_urn) (defBody s_law_urn) (defScope s_law_urn) .none kV7 dc7 pm7 an7 cd7 ct7), sl7⟩)
    (c7 : PySem.W.codeIn K cd7 "_law_urn" = true)
    (k7 : PySem.W.keepIn K (.ref f7) = true)
    (a8 : PySem.W.nsIn K mainGlobals "_law_take" = some (some (.ref f8)))
    (l8 : K.lookup f8 = some ⟨oc8, od8, .func (PySem.W.fnOf "_law_take" "_law_take" (defArgs s_law_take) (defBody s_law_take) (defScope s_law_take) .none kV8 dc8 pm8 an8 cd8 ct8), sl8⟩)
    (c8 : PySem.W.codeIn K cd8 "_law_take" = true)
    (k8 : PySem.W.keepIn K (.ref f8) = true)
    (a9 : PySem.W.nsIn K mainGlobals "_law_one" = some (some (.ref f9)))
    (l9 : K.lookup f9 = some ⟨oc9, od9, .func (PySem.W.fnOf "_law_one" "_law_one" (defArgs s_law_one) (defBody s_law_one) (defScope s_law_one) .none kV9 dc9 pm9 an9 cd9 ct9), sl9⟩)
    (c9 : PySem.W.codeIn K cd9 "_law_one" = true)
    (k9 : PySem.W.keepIn K (.ref f9) = true)
    (a10 : PySem.W.nsIn K mainGlobals "_law_sizes" = some (some (.ref f10)))
    (l10 : K.lookup f10 = some ⟨oc10, od10, .func (PySem.W.fnOf "_law_sizes" "_law_sizes" (defArgs s_law_sizes) (defBody s_law_sizes) (defScope s_law_sizes) .none kV10 dc10 pm10 an10 cd10 ct10), sl10⟩)
    (c10 : PySem.W.codeIn K cd10 "_law_sizes" = true)
    (k10 : PySem.W.keepIn K (.ref f10) = true)
    (a11 : PySem.W.nsIn K mainGlobals "_law_met" = some (some (.ref f11)))
    (l11 : K.lookup f11 = some ⟨oc11, od11, .func (PySem.W.fnOf "_law_met" "_law_met" (defArgs s_law_met) (defBody s_law_met) (defScope s_law_met) .none kV11 dc11 pm11 an11 cd11 ct11), sl11⟩)
    (c11 : PySem.W.codeIn K cd11 "_law_met" = true)
    (k11 : PySem.W.keepIn K (.ref f11) = true)
    (a12 : PySem.W.nsIn K mainGlobals "_law_right" = some (some (.ref f12)))
    (l12 : K.lookup f12 = some ⟨oc12, od12, .func (PySem.W.fnOf "_law_right" "_law_right" (defArgs s_law_right) (defBody s_law_right) (defScope s_law_right) .none kV12 dc12 pm12 an12 (.ref cR) ct12), sl12⟩)
    (c12 : PySem.W.codeIn K (.ref cR) "_law_right" = true)
    (k12 : PySem.W.keepIn K (.ref f12) = true)
    (a13 : PySem.W.nsIn K mainGlobals "law" = some (some (.ref f13)))
    (l13 : K.lookup f13 = some ⟨oc13, od13, .func (PySem.W.fnOf "law" "law" (defArgs slaw) (defBody slaw) (defScope slaw) .none kV13 dc13 pm13 an13 cd13 ct13), sl13⟩)
    (c13 : PySem.W.codeIn K cd13 "law" = true)
    (k13 : PySem.W.keepIn K (.ref f13) = true)
    (a14 : PySem.W.findIn K (.ref C) "__init__" = some (some (.ref f14)))
    (i14 : PySem.W.isFn K (.ref f14) = true)
    (l14 : K.lookup f14 = some ⟨oc14, od14, .func (PySem.W.fnOf "__init__" "Space.__init__" (defArgs sSpace__init__) (defBody sSpace__init__) (defScope sSpace__init__) .none (.ref kD) dc14 pm14 an14 cd14 ct14), sl14⟩)
    (c14 : PySem.W.codeIn K cd14 "Space.__init__" = true)
    (k14 : PySem.W.keepIn K (.ref f14) = true)
    (a15 : PySem.W.findIn K (.ref C) "pairs" = some (some (.ref f15)))
    (i15 : PySem.W.isFn K (.ref f15) = true)
    (l15 : K.lookup f15 = some ⟨oc15, od15, .func (PySem.W.fnOf "pairs" "Space.pairs" (defArgs sSpacepairs) (defBody sSpacepairs) (defScope sSpacepairs) .none kV15 dc15 pm15 an15 cd15 ct15), sl15⟩)
    (c15 : PySem.W.codeIn K cd15 "Space.pairs" = true)
    (k15 : PySem.W.keepIn K (.ref f15) = true)
    (a16 : PySem.W.findIn K (.ref C) "relation" = some (some (.ref f16)))
    (i16 : PySem.W.isFn K (.ref f16) = true)
    (l16 : K.lookup f16 = some ⟨oc16, od16, .func (PySem.W.fnOf "relation" "Space.relation" (defArgs sSpacerelation) (defBody sSpacerelation) (defScope sSpacerelation) .none kV16 dc16 pm16 an16 cd16 ct16), sl16⟩)
    (c16 : PySem.W.codeIn K cd16 "Space.relation" = true)
    (k16 : PySem.W.keepIn K (.ref f16) = true)
    (a17 : PySem.W.findIn K (.ref C) "followed" = some (some (.ref f17)))
    (i17 : PySem.W.isFn K (.ref f17) = true)
    (l17 : K.lookup f17 = some ⟨oc17, od17, .func (PySem.W.fnOf "followed" "Space.followed" (defArgs sSpacefollowed) (defBody sSpacefollowed) (defScope sSpacefollowed) .none kV17 dc17 pm17 an17 cd17 ct17), sl17⟩)
    (c17 : PySem.W.codeIn K cd17 "Space.followed" = true)
    (k17 : PySem.W.keepIn K (.ref f17) = true)
    (a18 : PySem.W.findIn K (.ref C) "either" = some (some (.ref f18)))
    (i18 : PySem.W.isFn K (.ref f18) = true)
    (l18 : K.lookup f18 = some ⟨oc18, od18, .func (PySem.W.fnOf "either" "Space.either" (defArgs sSpaceeither) (defBody sSpaceeither) (defScope sSpaceeither) .none kV18 dc18 pm18 an18 cd18 ct18), sl18⟩)
    (c18 : PySem.W.codeIn K cd18 "Space.either" = true)
    (k18 : PySem.W.keepIn K (.ref f18) = true)
    (a19 : PySem.W.findIn K (.ref C) "is_within" = some (some (.ref f19)))
    (i19 : PySem.W.isFn K (.ref f19) = true)
    (l19 : K.lookup f19 = some ⟨oc19, od19, .func (PySem.W.fnOf "is_within" "Space.is_within" (defArgs sSpaceis_within) (defBody sSpaceis_within) (defScope sSpaceis_within) .none kV19 dc19 pm19 an19 cd19 ct19), sl19⟩)
    (c19 : PySem.W.codeIn K cd19 "Space.is_within" = true)
    (k19 : PySem.W.keepIn K (.ref f19) = true)
    (a20 : PySem.W.findIn K (.ref C) "is_table" = some (some (.ref f20)))
    (i20 : PySem.W.isFn K (.ref f20) = true)
    (l20 : K.lookup f20 = some ⟨oc20, od20, .func (PySem.W.fnOf "is_table" "Space.is_table" (defArgs sSpaceis_table) (defBody sSpaceis_table) (defScope sSpaceis_table) .none kV20 dc20 pm20 an20 cd20 ct20), sl20⟩)
    (c20 : PySem.W.codeIn K cd20 "Space.is_table" = true)
    (k20 : PySem.W.keepIn K (.ref f20) = true)
    (a21 : PySem.W.findIn K (.ref C) "is_monotone" = some (some (.ref f21)))
    (i21 : PySem.W.isFn K (.ref f21) = true)
    (l21 : K.lookup f21 = some ⟨oc21, od21, .func (PySem.W.fnOf "is_monotone" "Space.is_monotone" (defArgs sSpaceis_monotone) (defBody sSpaceis_monotone) (defScope sSpaceis_monotone) .none kV21 dc21 pm21 an21 cd21 ct21), sl21⟩)
    (c21 : PySem.W.codeIn K cd21 "Space.is_monotone" = true)
    (k21 : PySem.W.keepIn K (.ref f21) = true)
    (a22 : PySem.W.findIn K (.ref C) "composed" = some (some (.ref f22)))
    (i22 : PySem.W.isFn K (.ref f22) = true)
    (l22 : K.lookup f22 = some ⟨oc22, od22, .func (PySem.W.fnOf "composed" "Space.composed" (defArgs sSpacecomposed) (defBody sSpacecomposed) (defScope sSpacecomposed) .none kV22 dc22 pm22 an22 cd22 ct22), sl22⟩)
    (c22 : PySem.W.codeIn K cd22 "Space.composed" = true)
    (k22 : PySem.W.keepIn K (.ref f22) = true)
    (a23 : PySem.W.findIn K (.ref C) "_is_relation" = some (some (.ref f23)))
    (i23 : PySem.W.isFn K (.ref f23) = true)
    (l23 : K.lookup f23 = some ⟨oc23, od23, .func (PySem.W.fnOf "_is_relation" "Space._is_relation" (defArgs sSpace_is_relation) (defBody sSpace_is_relation) (defScope sSpace_is_relation) .none kV23 dc23 pm23 an23 cd23 ct23), sl23⟩)
    (c23 : PySem.W.codeIn K cd23 "Space._is_relation" = true)
    (k23 : PySem.W.keepIn K (.ref f23) = true)
    (a24 : PySem.W.findIn K (.ref C) "_is_pair" = some (some (.ref f24)))
    (i24 : PySem.W.isFn K (.ref f24) = true)
    (l24 : K.lookup f24 = some ⟨oc24, od24, .func (PySem.W.fnOf "_is_pair" "Space._is_pair" (defArgs sSpace_is_pair) (defBody sSpace_is_pair) (defScope sSpace_is_pair) .none kV24 dc24 pm24 an24 cd24 ct24), sl24⟩)
    (c24 : PySem.W.codeIn K cd24 "Space._is_pair" = true)
    (k24 : PySem.W.keepIn K (.ref f24) = true)
    (a25 : PySem.W.findIn K (.ref C) "_check_relation" = some (some (.ref f25)))
    (i25 : PySem.W.isFn K (.ref f25) = true)
    (l25 : K.lookup f25 = some ⟨oc25, od25, .func (PySem.W.fnOf "_check_relation" "Space._check_relation" (defArgs sSpace_check_relation) (defBody sSpace_check_relation) (defScope sSpace_check_relation) .none kV25 dc25 pm25 an25 cd25 ct25), sl25⟩)
    (c25 : PySem.W.codeIn K cd25 "Space._check_relation" = true)
    (k25 : PySem.W.keepIn K (.ref f25) = true)
    (a26 : PySem.W.findIn K (.ref C) "_check_table" = some (some (.ref f26)))
    (i26 : PySem.W.isFn K (.ref f26) = true)
    (l26 : K.lookup f26 = some ⟨oc26, od26, .func (PySem.W.fnOf "_check_table" "Space._check_table" (defArgs sSpace_check_table) (defBody sSpace_check_table) (defScope sSpace_check_table) .none kV26 dc26 pm26 an26 cd26 ct26), sl26⟩)
    (c26 : PySem.W.codeIn K cd26 "Space._check_table" = true)
    (k26 : PySem.W.keepIn K (.ref f26) = true)
    (a27 : PySem.W.findIn K (.ref CN) "__init__" = some (some (.ref f27)))
    (i27 : PySem.W.typeIn K (.ref f27) = some (.type "function"))
    (l27 : K.lookup f27 = some ⟨oc27, od27, .func (PySem.W.fnOf "__init__" "InvalidNumber.__init__" (defArgs sInvalidNumber__init__) (defBody sInvalidNumber__init__) (defScope sInvalidNumber__init__) .none kV27 dc27 pm27 an27 cd27 ct27), sl27⟩)
    (c27 : PySem.W.codeIn K cd27 "InvalidNumber.__init__" = true)
    (k27 : PySem.W.keepIn K (.ref f27) = true)
    (wI : PySem.W.nsIn K kD "watched" = some (some (.bool false)))
    (z_isinstance : PySem.W.nsIn K mainGlobals "isinstance" = some none)
    (z_int : PySem.W.nsIn K mainGlobals "int" = some none)
    (z_bool : PySem.W.nsIn K mainGlobals "bool" = some none)
    (z_str : PySem.W.nsIn K mainGlobals "str" = some none)
    (z_tuple : PySem.W.nsIn K mainGlobals "tuple" = some none)
    (z_list : PySem.W.nsIn K mainGlobals "list" = some none)
    (z_len : PySem.W.nsIn K mainGlobals "len" = some none)
    (z_all : PySem.W.nsIn K mainGlobals "all" = some none)
    (z_sum : PySem.W.nsIn K mainGlobals "sum" = some none)
    (z_set : PySem.W.nsIn K mainGlobals "set" = some none)
    (z_range : PySem.W.nsIn K mainGlobals "range" = some none)
    (z_abs : PySem.W.nsIn K mainGlobals "abs" = some none)
    (z_max : PySem.W.nsIn K mainGlobals "max" = some none)
    (z_min : PySem.W.nsIn K mainGlobals "min" = some none)
    (z_sorted : PySem.W.nsIn K mainGlobals "sorted" = some none)
    (z_divmod : PySem.W.nsIn K mainGlobals "divmod" = some none)
    (z_repr : PySem.W.nsIn K mainGlobals "repr" = some none)
    (z_zip : PySem.W.nsIn K mainGlobals "zip" = some none)
    (y_M : PySem.W.nsIn K mainGlobals "MAX_MODES" = some (some (.int 3 t_M)))
    (aC : PySem.W.nsIn K mainGlobals "Space" = some (some (.ref C)))
    (qpg : PySem.W.plainGet K C Str.empty = true)
    (qhd : PySem.W.hasDictIn K C = true)
    (qpo : PySem.W.plainOver K C = true)
    (qsa : PySem.W.findIn K (.ref C) "__setattr__" = some (some (.builtin "object.__setattr__")))
    (qmk : PySem.W.makesIn K C = true)
    (qkc : PySem.W.keepIn K (.ref C) = true)
    (n_modes : PySem.W.findIn K (.ref C) "_modes" = some none)
    (n_watched : PySem.W.findIn K (.ref C) "_watched" = some none)
    (n_ends : PySem.W.findIn K (.ref C) "_ends" = some none)
    (n_size : PySem.W.findIn K (.ref C) "_size" = some none)
    (n_same : PySem.W.findIn K (.ref C) "_same" = some none)
    (qha : PySem.W.findIn K (.ref C) "__class__" = some (some (.builtin "object.__class__")))
    (qhn : PySem.W.specialIn K (.builtin "object.__class__") "__get__" = some (some (.builtin "getset_descriptor.__get__")))
    (qht : PySem.W.takesIn K (.builtin "object.__class__") = some true)
    (qhm : PySem.W.mroIn K C (.type "object") = some true)
    (qis : PySem.W.isClsIn K C = true)
    (qty : PySem.W.typeIn K (.ref C) = some (.type "type"))
    (u_tuple : PySem.W.subIn K (.type "tuple") (.ref C) = some false)
    (v_tuple : PySem.W.notFirst K C (.type "tuple") = true)
    (v_self : PySem.W.notFirst K C (.ref C) = true)
    (gM : PySem.W.nsIn K mainGlobals "InvalidMeaning" = some (some (.ref CM)))
    (kpM : PySem.W.keepIn K (.ref CM) = true)
    (bM : PySem.W.subIn K (.ref CM) (.type "BaseException") = some true)
    (tM : PySem.W.typeIn K (.ref CM) = some (.type "type"))
    (isM : PySem.W.isClsIn K CM = true)
    (gO : PySem.W.nsIn K mainGlobals "InvalidOperation" = some (some (.ref CO)))
    (kpO : PySem.W.keepIn K (.ref CO) = true)
    (bO : PySem.W.subIn K (.ref CO) (.type "BaseException") = some true)
    (tO : PySem.W.typeIn K (.ref CO) = some (.type "type"))
    (isO : PySem.W.isClsIn K CO = true)
    (gN : PySem.W.nsIn K mainGlobals "InvalidNumber" = some (some (.ref CN)))
    (kpN : PySem.W.keepIn K (.ref CN) = true)
    (bN : PySem.W.subIn K (.ref CN) (.type "BaseException") = some true)
    (tN : PySem.W.typeIn K (.ref CN) = some (.type "type"))
    (isN : PySem.W.isClsIn K CN = true)
    (xM : PySem.W.excIn K CM [.type "ValueError", .type "Exception", .type "BaseException", .type "object"] "ValueError.__new__" = true)
    (xO : PySem.W.excIn K CO [.type "ValueError", .type "Exception", .type "BaseException", .type "object"] "ValueError.__new__" = true)
    (sMM : PySem.W.subIn K (.ref CM) (.ref CM) = some true)
    (sOM : PySem.W.subIn K (.ref CO) (.ref CM) = some false)
    (sOO : PySem.W.subIn K (.ref CO) (.ref CO) = some true)
    (sNM : PySem.W.subIn K (.ref CN) (.ref CM) = some false)
    (sNO : PySem.W.subIn K (.ref CN) (.ref CO) = some false)
    (sNN : PySem.W.subIn K (.ref CN) (.ref CN) = some true)
    (omN : PySem.W.excInitIn K CN [.type "IndexError", .type "LookupError", .type "Exception", .type "BaseException", .type "object"] "IndexError.__new__" = true)
    (ooN : PySem.W.excOver K CN [.type "IndexError", .type "LookupError", .type "Exception", .type "BaseException", .type "object"] = true)
    (ohN : PySem.W.hasDictIn K CN = true)
    (osN : PySem.W.findIn K (.ref CN) "__setattr__" = some (some (.builtin "object.__setattr__")))
    (noN : PySem.W.findIn K (.ref CN) "value" = some none)
    (xfN : xfB K CN = true)
    (dR : PySem.W.codeHdIn K cR PR = true)
    (nR : K.lookup PR = none)
    (hR : h.get? PR = some { cls := .none, data := .fields #[] })
    : ∃ fd tabs sp, LawG l w K 11 63 "_law_script" mg fa h fd tabs sp := by
  have e := hfa.symm.trans (PySem.W.mg_of X G a13)
  cases e
  have T : Nm mg := ⟨PySem.W.mg_none_of X G z_isinstance, PySem.W.mg_none_of X G z_int, PySem.W.mg_none_of X G z_bool, PySem.W.mg_none_of X G z_str, PySem.W.mg_none_of X G z_tuple, PySem.W.mg_none_of X G z_list, PySem.W.mg_none_of X G z_len, PySem.W.mg_none_of X G z_all, PySem.W.mg_none_of X G z_sum, PySem.W.mg_none_of X G z_set, PySem.W.mg_none_of X G z_range, PySem.W.mg_none_of X G z_abs, PySem.W.mg_none_of X G z_max, PySem.W.mg_none_of X G z_min, PySem.W.mg_none_of X G z_sorted, PySem.W.mg_none_of X G z_divmod, PySem.W.mg_none_of X G z_repr, PySem.W.mg_none_of X G z_zip, ⟨_, PySem.W.mg_of X G y_M⟩⟩
  have F1 := fun_mk (st := sis_integer_in) l1 c1 k1
  have b1 := F1.binds (ps := ["value", "least", "greatest"]) fun _ _ _ _ _ _ us hl => match us, hl with | [_, _, _], _ => rfl
  have F2 := fun_mk (st := sare_integers_below) l2 c2 k2
  have b2 := F2.binds (ps := ["values", "limit"]) fun _ _ _ _ _ _ us hl => match us, hl with | [_, _], _ => rfl
  have F3 := fun_mk (st := spairs_of) l3 c3 k3
  have b3 := F3.binds (ps := ["relation", "modes", "ends"]) fun _ _ _ _ _ _ us hl => match us, hl with | [_, _, _], _ => rfl
  have F4 := fun_mk (st := ssame_of) l4 c4 k4
  have b4 := F4.binds (ps := ["modes", "ends"]) fun _ _ _ _ _ _ us hl => match us, hl with | [_, _], _ => rfl
  have F5 := fun_mk (st := sfollowed_by) l5 c5 k5
  have b5 := F5.binds (ps := ["one", "other", "modes", "ends"]) fun _ _ _ _ _ _ us hl => match us, hl with | [_, _, _, _], _ => rfl
  have F6 := fun_mk (st := sis_growing) l6 c6 k6
  have b6 := F6.binds (ps := ["table", "bits"]) fun _ _ _ _ _ _ us hl => match us, hl with | [_, _], _ => rfl
  have F7 := fun_mk (st := s_law_urn) l7 c7 k7
  have b7 := F7.binds (ps := ["_law_script", "_law_at"]) fun _ _ _ _ _ _ us hl => match us, hl with | [_, _], _ => rfl
  have F8 := fun_mk (st := s_law_take) l8 c8 k8
  have b8 := F8.binds (ps := ["_law_urn_here", "_law_total"]) fun _ _ _ _ _ _ us hl => match us, hl with | [_, _], _ => rfl
  have F9 := fun_mk (st := s_law_one) l9 c9 k9
  have b9 := F9.binds (ps := ["_law_urn_here", "_law_items"]) fun _ _ _ _ _ _ us hl => match us, hl with | [_, _], _ => rfl
  have F10 := fun_mk (st := s_law_sizes) l10 c10 k10
  have b10 := F10.binds (ps := ["_law_modes", "_law_watched"]) fun _ _ _ _ _ _ us hl => match us, hl with | [_, _], _ => rfl
  have F11 := fun_mk (st := s_law_met) l11 c11 k11
  have b11 := F11.binds (ps := ["_law_call"]) fun _ _ _ _ _ _ us hl => match us, hl with | [_], _ => rfl
  have F12 : FunC K "_law_right" "_law_right" s_law_right _ _ cR := ⟨⟨_, _, _, _, _, _, _, _, rfl, l12, c12⟩⟩
  have b12 : Binds K (PySem.W.fnOf "_law_right" "_law_right" (defArgs s_law_right) (defBody s_law_right) (defScope s_law_right) .none kV12 dc12 pm12 an12 (.ref cR) ct12) ["_law_urn_here"] [] := .all fun us hl => match us, hl with | [_], _ => rfl
  have F13 := fun_mk (st := slaw) l13 c13 k13
  have b13 := F13.binds (ps := ["_law_script"]) fun _ _ _ _ _ _ us hl => match us, hl with | [_], _ => rfl
  have F14 : FunD K "__init__" "Space.__init__" (defArgs sSpace__init__) (defBody sSpace__init__) (defScope sSpace__init__) [] [("watched", .bl false)] f14 _ := ⟨⟨_, _, _, _, _, _, _, _, _, _, rfl, l14, c14, .inl ⟨rfl, rfl⟩, .inr ⟨_, rfl, fun q hq => by
    cases List.mem_singleton.mp hq
    exact ⟨_, wI, rfl⟩⟩⟩, k14⟩
  have F15 := fun_mk (st := sSpacepairs) l15 c15 k15
  have b15 := F15.binds (ps := ["self", "relation"]) fun _ _ _ _ _ _ us hl => match us, hl with | [_, _], _ => rfl
  have F16 := fun_mk (st := sSpacerelation) l16 c16 k16
  have b16 := F16.binds (ps := ["self", "pairs"]) fun _ _ _ _ _ _ us hl => match us, hl with | [_, _], _ => rfl
  have F17 := fun_mk (st := sSpacefollowed) l17 c17 k17
  have b17 := F17.binds (ps := ["self", "one", "other"]) fun _ _ _ _ _ _ us hl => match us, hl with | [_, _, _], _ => rfl
  have F18 := fun_mk (st := sSpaceeither) l18 c18 k18
  have b18 := F18.binds (ps := ["self", "one", "other"]) fun _ _ _ _ _ _ us hl => match us, hl with | [_, _, _], _ => rfl
  have F19 := fun_mk (st := sSpaceis_within) l19 c19 k19
  have b19 := F19.binds (ps := ["self", "one", "other"]) fun _ _ _ _ _ _ us hl => match us, hl with | [_, _, _], _ => rfl
  have F20 := fun_mk (st := sSpaceis_table) l20 c20 k20
  have b20 := F20.binds (ps := ["self", "value"]) fun _ _ _ _ _ _ us hl => match us, hl with | [_, _], _ => rfl
  have F21 := fun_mk (st := sSpaceis_monotone) l21 c21 k21
  have b21 := F21.binds (ps := ["self", "table"]) fun _ _ _ _ _ _ us hl => match us, hl with | [_, _], _ => rfl
  have F22 := fun_mk (st := sSpacecomposed) l22 c22 k22
  have b22 := F22.binds (ps := ["self", "one", "other"]) fun _ _ _ _ _ _ us hl => match us, hl with | [_, _, _], _ => rfl
  have F23 := fun_mk (st := sSpace_is_relation) l23 c23 k23
  have b23 := F23.binds (ps := ["self", "value"]) fun _ _ _ _ _ _ us hl => match us, hl with | [_, _], _ => rfl
  have F24 := fun_mk (st := sSpace_is_pair) l24 c24 k24
  have b24 := F24.binds (ps := ["self", "value"]) fun _ _ _ _ _ _ us hl => match us, hl with | [_, _], _ => rfl
  have F25 := fun_mk (st := sSpace_check_relation) l25 c25 k25
  have b25 := F25.binds (ps := ["self", "value"]) fun _ _ _ _ _ _ us hl => match us, hl with | [_, _], _ => rfl
  have F26 := fun_mk (st := sSpace_check_table) l26 c26 k26
  have b26 := F26.binds (ps := ["self", "value"]) fun _ _ _ _ _ _ us hl => match us, hl with | [_, _], _ => rfl
  have F27 := fun_mk (st := sInvalidNumber__init__) l27 c27 k27
  have b27 := F27.binds (ps := ["self", "value"]) fun _ _ _ _ _ _ us hl => match us, hl with | [_, _], _ => rfl
  let TS : List (Addr × Str) := [(PR, lamQ "_law_right")]
  refine ⟨PySem.W.fnOf "law" "law" (defArgs slaw) (defBody slaw) (defScope slaw) .none kV13 dc13 pm13 an13 cd13 ct13, [(cR, PR)], spLawM TS K, ?_, ?_, ?_, fun s v => .of_eq rfl, fun H a ns hl _ hH hS => ⟨a, ns, rfl, hS, hl, ?_, fun _ => rfl⟩, fun base _ _ TBs hs => ?_⟩
  · intro p hp
    rw [List.mem_singleton.mp hp]
    exact hR
  · intro p hp
    rw [List.mem_singleton.mp hp]
    exact nR
  · intro p hp
    rw [List.mem_singleton.mp hp]
    exact PySem.W.codeHd_of_K X dR
  · intro p hp
    rw [List.mem_singleton.mp hp]
    exact TabS.nil (hH (cR, PR) List.mem_cons_self)
  have TBR := TBs (cR, PR) List.mem_cons_self
  have huR : ∀ p ∈ TS, p.1 = PR → p.2 = lamQ "_law_right" := fun p hp e => by rw [List.mem_singleton.mp hp]
  have PC : SpC K mg C := ⟨⟨qpg, qhd, qpo, qsa⟩, PySem.W.mg_of X G aC, n_modes, n_watched, n_ends, n_size, n_same, qha, qhn, qht, qhm, kit_self, kit_own qis qty u_tuple, v_tuple, v_self⟩
  have WN : OexW K CN "IndexError.__new__" [.type "IndexError", .type "LookupError", .type "Exception", .type "BaseException", .type "object"] := ⟨omN, ooN, ohN, osN, bN, tN, kpN, base_Index⟩
  have EC : ErrC l.prog w K mg base "InvalidNumber" CN "value" := ⟨⟨_, _, _, _, WN, a27, i27, ok_InvalidNumberI F27 WN noN, b27⟩, PySem.W.mg_of X G gN, noN⟩
  have BM : BadE K mg "InvalidMeaning" CM := ⟨PySem.W.mg_of X G gM, kpM, xM, bM, tM⟩
  have BO : BadE K mg "InvalidOperation" CO := ⟨PySem.W.mg_of X G gO, kpO, xO, bO, tO⟩
  have ap : Apart K CM CO CN := ⟨exm_is bM isM tM sMM, exm_is bM isM tM sOM, exm_is bO isO tO sOO, exm_is bM isM tM sNM, exm_is bO isO tO sNO, exm_is bN isN tN sNN⟩
  have MG : MetK l.prog w K mg base CM CO CN := ⟨⟨_, _, _, _, _, _, _, _, _, _, PySem.W.mg_of X G a11, k11, l11, c11, b11⟩, PySem.W.mg_of X G gM, PySem.W.mg_of X G gO, PySem.W.mg_of X G gN, PySem.W.mg_none_of X G z_repr, noN, xfB_ok xfN, hs⟩
  have C_is_integer_in : Cal l.prog w K mg base 2 "is_integer_in" ["value", "least", "greatest"] (spIntIn K) := ⟨_, _, ok_is_integer_in F1 T, PySem.W.mg_of X G a1, k1, b1⟩
  have C_are_integers_below : Cal l.prog w K mg base 1 "are_integers_below" ["values", "limit"] (spBelow K) := ⟨_, _, ok_are_integers_below F2 T, PySem.W.mg_of X G a2, k2, b2⟩
  have C_same_of : Cal l.prog w K mg base 1 "same_of" ["modes", "ends"] (spSame) := ⟨_, _, ok_same_of F4 T, PySem.W.mg_of X G a4, k4, b4⟩
  have N_same_of : Cal l.prog w K mg base 1 "same_of" ["modes", "ends"] (spNo) := ⟨_, _, never, PySem.W.mg_of X G a4, k4, b4⟩
  have N_pairs_of : Cal l.prog w K mg base 1 "pairs_of" ["relation", "modes", "ends"] (spNo) := ⟨_, _, never, PySem.W.mg_of X G a3, k3, b3⟩
  have N_followed_by : Cal l.prog w K mg base 1 "followed_by" ["one", "other", "modes", "ends"] (spNo) := ⟨_, _, never, PySem.W.mg_of X G a5, k5, b5⟩
  have N_is_growing : Cal l.prog w K mg base 1 "is_growing" ["table", "bits"] (spNo) := ⟨_, _, never, PySem.W.mg_of X G a6, k6, b6⟩
  have M_is_table : MCal l.prog w K mg base C 4 "is_table" ["self", "value"] (spIsTbl C K) := ⟨_, _, ok_Spaceis_table F20 T PC C_are_integers_below, ⟨a20, i20, k20⟩, b20⟩
  have M__is_relation : MCal l.prog w K mg base C 3 "_is_relation" ["self", "value"] (spIsRel C K) := ⟨_, _, ok_Space_is_relation F23 T PC C_is_integer_in, ⟨a23, i23, k23⟩, b23⟩
  have M__is_pair : MCal l.prog w K mg base C 3 "_is_pair" ["self", "value"] (spIsPairX C K) := ⟨_, _, ok_Space_is_pair F24 T PC C_is_integer_in, ⟨a24, i24, k24⟩, b24⟩
  have M__check_relation : MCalX l.prog w K mg base C 5 "_check_relation" ["self", "value"] (spChkA C CN K) := ⟨_, _, ok_Space_check_relation F25 T PC EC M__is_relation, ⟨a25, i25, k25⟩, b25⟩
  have M__check_table : MCalX l.prog w K mg base C 5 "_check_table" ["self", "value"] (spChkTX C CM K) := ⟨_, _, ok_Space_check_table F26 T PC BM M_is_table, ⟨a26, i26, k26⟩, b26⟩
  have M_pairs : MCalX l.prog w K mg base C 6 "pairs" ["self", "relation"] (spPairsX C CN K) := ⟨_, _, ok_Spacepairs F15 T PC M__check_relation N_pairs_of, ⟨a15, i15, k15⟩, b15⟩
  have M_relation : MCalX l.prog w K mg base C 5 "relation" ["self", "pairs"] (spRelX C CM K) := ⟨_, _, ok_Spacerelation F16 T PC BM M__is_pair, ⟨a16, i16, k16⟩, b16⟩
  have M_followed : MCalX l.prog w K mg base C 6 "followed" ["self", "one", "other"] (spTwoX C CN K) := ⟨_, _, ok_Spacefollowed F17 T PC M__check_relation N_followed_by, ⟨a17, i17, k17⟩, b17⟩
  have M_either : MCalX l.prog w K mg base C 6 "either" ["self", "one", "other"] (spTwoX C CN K) := ⟨_, _, ok_Spaceeither F18 T PC M__check_relation, ⟨a18, i18, k18⟩, b18⟩
  have M_is_within : MCalX l.prog w K mg base C 6 "is_within" ["self", "one", "other"] (spTwoX C CN K) := ⟨_, _, ok_Spaceis_within F19 T PC M__check_relation, ⟨a19, i19, k19⟩, b19⟩
  have M_is_monotone : MCalX l.prog w K mg base C 6 "is_monotone" ["self", "table"] (spMonoX C CM K) := ⟨_, _, ok_Spaceis_monotone F21 T PC M__check_table N_is_growing, ⟨a21, i21, k21⟩, b21⟩
  have M_composed : MCalX l.prog w K mg base C 6 "composed" ["self", "one", "other"] (spCompX C CM K) := ⟨_, _, ok_Spacecomposed F22 T PC M__check_table, ⟨a22, i22, k22⟩, b22⟩
  have ib := init_binds F14
  have SG : SpG l.prog w K mg base C := ⟨PC, ⟨_, _, ok_Space__init__ F14 T PC C_is_integer_in C_same_of, ⟨qmk, a14, i14, qkc⟩, ib.2⟩⟩
  have SX : SpX l.prog w K mg base C CN CO := ⟨PC, ⟨_, _, okX_Space__init__ F14 T PC EC BO C_is_integer_in N_same_of, ⟨qmk, a14, i14, qkc⟩, ib.1, ib.2⟩⟩
  have C__law_urn : Cal l.prog w K mg base 1 "_law_urn" ["_law_script", "_law_at"] (spUrn K) := ⟨_, _, ok_l_urn F7 T, PySem.W.mg_of X G a7, k7, b7⟩
  have C__law_take : Cal l.prog w K mg base 1 "_law_take" ["_law_urn_here", "_law_total"] (spTake) := ⟨_, _, ok_l_take F8 T, PySem.W.mg_of X G a8, k8, b8⟩
  have C__law_one : Cal l.prog w K mg base 2 "_law_one" ["_law_urn_here", "_law_items"] (spOne K) := ⟨_, _, ok_l_one F9 T C__law_take, PySem.W.mg_of X G a9, k9, b9⟩
  have C__law_sizes : Cal l.prog w K mg base 1 "_law_sizes" ["_law_modes", "_law_watched"] (spSizes) := ⟨_, _, ok_l_sizes F10 T, PySem.W.mg_of X G a10, k10, b10⟩
  have C__law_right : CalG l.prog w K mg base 9 "_law_right" ["_law_urn_here"] (spRightM TS) := ⟨⟨_, _, ok_l_right F12 T (PySem.W.mg_none_of X G z_repr) hs TBR List.mem_cons_self huR MG SG SX ap C__law_take C__law_one C__law_sizes M_pairs M_relation M_is_monotone M_composed M_followed M_either M_is_within M_is_table, PySem.W.mg_of X G a12, k12, b12⟩⟩
  exact ok_law F13 T C__law_urn C__law_right
end SQ

set_option Elab.async false
set_option linter.all false
set_option maxRecDepth 100000
open PySem PySem.W PyProof.Rows
set_option maxHeartbeats 0 in
theorem PySem.Challenge.cw_blockshanded_k23_errors_of_spaces_holds : PySem.Challenge.rw_blockshanded_k23_errors_of_spaces.Holds := by
  w_on; o_law; k_head; (case hw => w_witness2)
  k_fill
  refine FS.walk_G (l := PySem.Challenge.rw_blockshanded_k23_errors_of_spaces) (n := 63) (k := 11) (x := "_law_script") rfl (by decide) rfl ⟨rfl, by decide, by decide⟩ (by decide +kernel) (fun w h Y => km_in_of Y) ?F
  case F =>
    intro w mg fa h Y KX G hmg
    have tabs := km_tabs_of Y
    refine' SQ.all_mk (PR := 343) KX G hmg ?a1 ?l1 ?c1 ?k1 ?a2 ?l2 ?c2 ?k2 ?a3 ?l3 ?c3 ?k3 ?a4 ?l4 ?c4 ?k4 ?a5 ?l5 ?c5 ?k5 ?a6 ?l6 ?c6 ?k6 ?a7 ?l7 ?c7 ?k7 ?a8 ?l8 ?c8 ?k8 ?a9 ?l9 ?c9 ?k9 ?a10 ?l10 ?c10 ?k10 ?a11 ?l11 ?c11 ?k11 ?a12 ?l12 ?c12 ?k12 ?a13 ?l13 ?c13 ?k13 ?a14 ?i14 ?l14 ?c14 ?k14 ?a15 ?i15 ?l15 ?c15 ?k15 ?a16 ?i16 ?l16 ?c16 ?k16 ?a17 ?i17 ?l17 ?c17 ?k17 ?a18 ?i18 ?l18 ?c18 ?k18 ?a19 ?i19 ?l19 ?c19 ?k19 ?a20 ?i20 ?l20 ?c20 ?k20 ?a21 ?i21 ?l21 ?c21 ?k21 ?a22 ?i22 ?l22 ?c22 ?k22 ?a23 ?i23 ?l23 ?c23 ?k23 ?a24 ?i24 ?l24 ?c24 ?k24 ?a25 ?i25 ?l25 ?c25 ?k25 ?a26 ?i26 ?l26 ?c26 ?k26 ?a27 ?i27 ?l27 ?c27 ?k27 ?wI ?z_isinstance ?z_int ?z_bool ?z_str ?z_tuple ?z_list ?z_len ?z_all ?z_sum ?z_set ?z_range ?z_abs ?z_max ?z_min ?z_sorted ?z_divmod ?z_repr ?z_zip ?y_M ?aC ?qpg ?qhd ?qpo ?qsa ?qmk ?qkc ?n_modes ?n_watched ?n_ends ?n_size ?n_same ?qha ?qhn ?qht ?qhm ?qis ?qty ?u_tuple ?v_tuple ?v_self ?gM ?kpM ?bM ?tM ?isM ?gO ?kpO ?bO ?tO ?isO ?gN ?kpN ?bN ?tN ?isN ?xM ?xO ?sMM ?sOM ?sOO ?sNM ?sNO ?sNN ?omN ?ooN ?ohN ?osN ?noN ?xfN ?dR ?nR ?hR
    (case aC => k_is)
    (case gM => k_is)
    (case gO => k_is)
    (case gN => k_is)
    (case a1 => k_is)
    (case l1 => k_is)
    (case c1 => k_is)
    (case k1 => k_is)
    (case a2 => k_is)
    (case l2 => k_is)
    (case c2 => k_is)
    (case k2 => k_is)
    (case a3 => k_is)
    (case l3 => k_is)
    (case c3 => k_is)
    (case k3 => k_is)
    (case a4 => k_is)
    (case l4 => k_is)
    (case c4 => k_is)
    (case k4 => k_is)
    (case a5 => k_is)
    (case l5 => k_is)
    (case c5 => k_is)
    (case k5 => k_is)
    (case a6 => k_is)
    (case l6 => k_is)
    (case c6 => k_is)
    (case k6 => k_is)
    (case a7 => k_is)
    (case l7 => k_is)
    (case c7 => k_is)
    (case k7 => k_is)
    (case a8 => k_is)
    (case l8 => k_is)
    (case c8 => k_is)
    (case k8 => k_is)
    (case a9 => k_is)
    (case l9 => k_is)
    (case c9 => k_is)
    (case k9 => k_is)
    (case a10 => k_is)
    (case l10 => k_is)
    (case c10 => k_is)
    (case k10 => k_is)
    (case a11 => k_is)
    (case l11 => k_is)
    (case c11 => k_is)
    (case k11 => k_is)
    (case a12 => k_is)
    (case l12 => k_is)
    (case c12 => k_is)
    (case k12 => k_is)
    (case a13 => k_is)
    (case l13 => k_is)
    (case c13 => k_is)
    (case k13 => k_is)
    (case a14 => k_is)
    (case i14 => k_is)
    (case l14 => k_is)
    (case c14 => k_is)
    (case k14 => k_is)
    (case a15 => k_is)
    (case i15 => k_is)
    (case l15 => k_is)
    (case c15 => k_is)
    (case k15 => k_is)
    (case a16 => k_is)
    (case i16 => k_is)
    (case l16 => k_is)
    (case c16 => k_is)
    (case k16 => k_is)
    (case a17 => k_is)
    (case i17 => k_is)
    (case l17 => k_is)
    (case c17 => k_is)
    (case k17 => k_is)
    (case a18 => k_is)
    (case i18 => k_is)
    (case l18 => k_is)
    (case c18 => k_is)
    (case k18 => k_is)
    (case a19 => k_is)
    (case i19 => k_is)
    (case l19 => k_is)
    (case c19 => k_is)
    (case k19 => k_is)
    (case a20 => k_is)
    (case i20 => k_is)
    (case l20 => k_is)
    (case c20 => k_is)
    (case k20 => k_is)
    (case a21 => k_is)
    (case i21 => k_is)
    (case l21 => k_is)
    (case c21 => k_is)
    (case k21 => k_is)
    (case a22 => k_is)
    (case i22 => k_is)
    (case l22 => k_is)
    (case c22 => k_is)
    (case k22 => k_is)
    (case a23 => k_is)
    (case i23 => k_is)
    (case l23 => k_is)
    (case c23 => k_is)
    (case k23 => k_is)
    (case a24 => k_is)
    (case i24 => k_is)
    (case l24 => k_is)
    (case c24 => k_is)
    (case k24 => k_is)
    (case a25 => k_is)
    (case i25 => k_is)
    (case l25 => k_is)
    (case c25 => k_is)
    (case k25 => k_is)
    (case a26 => k_is)
    (case i26 => k_is)
    (case l26 => k_is)
    (case c26 => k_is)
    (case k26 => k_is)
    (case a27 => k_is)
    (case i27 => k_is)
    (case l27 => k_is)
    (case c27 => k_is)
    (case k27 => k_is)
    (case wI => k_is)
    (case z_isinstance => k_is)
    (case z_int => k_is)
    (case z_bool => k_is)
    (case z_str => k_is)
    (case z_tuple => k_is)
    (case z_list => k_is)
    (case z_len => k_is)
    (case z_all => k_is)
    (case z_sum => k_is)
    (case z_set => k_is)
    (case z_range => k_is)
    (case z_abs => k_is)
    (case z_max => k_is)
    (case z_min => k_is)
    (case z_sorted => k_is)
    (case z_divmod => k_is)
    (case z_repr => k_is)
    (case z_zip => k_is)
    (case y_M => k_is)
    (case qpg => k_is)
    (case qhd => k_is)
    (case qpo => k_is)
    (case qsa => k_is)
    (case qmk => k_is)
    (case qkc => k_is)
    (case n_modes => k_is)
    (case n_watched => k_is)
    (case n_ends => k_is)
    (case n_size => k_is)
    (case n_same => k_is)
    (case qha => k_is)
    (case qhn => k_is)
    (case qht => k_is)
    (case qhm => k_is)
    (case qis => k_is)
    (case qty => k_is)
    (case u_tuple => first | k_is | rfl)
    (case v_tuple => k_is)
    (case v_self => k_is)
    (case kpM => k_is)
    (case bM => k_is)
    (case tM => k_is)
    (case isM => k_is)
    (case kpO => k_is)
    (case bO => k_is)
    (case tO => k_is)
    (case isO => k_is)
    (case kpN => k_is)
    (case bN => k_is)
    (case tN => k_is)
    (case isN => k_is)
    (case sMM => k_is)
    (case sOM => k_is)
    (case sOO => k_is)
    (case sNM => k_is)
    (case sNO => k_is)
    (case sNN => k_is)
    (case ohN => k_is)
    (case osN => k_is)
    (case noN => k_is)
    (case dR => kernel_rfl)
    (case nR => kernel_rfl)
    (case hR => exact tabs _ (by simp))
    (case xM => kernel_rfl)
    (case xO => kernel_rfl)
    (case omN => kernel_rfl)
    (case ooN => kernel_rfl)
    (case xfN => kernel_rfl)

