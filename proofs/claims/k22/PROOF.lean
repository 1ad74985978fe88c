import PyProof.Rows.All
import Wide.All
import OpenK.AllK
import Wide.FinOn
import HandS.ForMost
import HandS.IsInst
import HandS.RaiseMore
import HandS.Walk
import HandS.TupSets
import HandS.WideBits
import HandS.OwnEq
import HandS.Property
import HandS.MakeKwOnly
import HandS.FStr
import HandS.Sort
import KE.KCallOwn
import PyProof.InstNe
import PyProof.Rows.InDataRows
import HandS.Style
import HandS.Deep
import HandS.TupMul
import HandS.Conv
import KE.GoesMore
import HandS.Iter
import PySem.Challenge.RW_blockshanded_k22_tables
set_option Elab.async false
set_option linter.all false
set_option maxRecDepth 100000
set_option maxHeartbeats 6400000
/-! set(a tuple of tuples of ints), and its length -/
namespace SQ
open PySem PySem.Spec PyProof.Rows L2
section
variable {P : Program} {w : World} {A : Around} {E : Value → Shared → Prop} {s : Shared}
theorem none_at {h : Heap} {b : Addr} (hb : h.objs.size ≤ b) : h.get? b = none := by
  cases q : h.get? b with
  | none => rfl
  | some o => exact absurd (Nat.lt_of_lt_of_le (Heap.lt_size q) hb) (Nat.lt_irrefl _)
theorem made {l : Addr} {items : Array Value} {ks : List (Addr × List Int)} {Q : Value → Shared → Prop} (hh : A.handled = none) (hl : s.heap.IsTuple l items) (hit : items.toList = ks.map fun p => Value.ref p.1) (hk : ∀ p ∈ ks, IsT P w s.heap p.2 p.1) (few : ks.length < 64) (hu : A.units + 3 < cLine)
    (h : ∀ (h' : Heap) (tk : Nat) L es ep t, SetTR P w h' s.heap.objs.size L es ep t → L2.Got ks ks.length L → (∀ b o, s.heap.get? b = some o → h'.get? b = some o) → Q (.ref s.heap.objs.size) { s with heap := h', toks := tk }) :
    wpAny (model P w) A (call (.type "set") [.ref l]) Q E s := by
  have hisz : items.size = ks.length := by
    rw [← Array.length_toList, hit, List.length_map]
  obtain ⟨c, tl, hmro⟩ := PySem.F.called_set.mro
  have hmade := PySem.F.called_set.made
  have hsub := PySem.F.called_set.sub
  refine wpAny_call (codeAny_of_tree ?_)
  show wpAny _ _ (callAny (.type "set") _) _ _ _
  refine wpAny_pure ⟨Code.quiet_builtin _ (by decide +kernel), codeAny_builtin PySem.F.entry_type_call ?_⟩
  rw [Around.under_plain (weight_type_call_type "set" [.ref l] []) rfl]
  have h1 := PySem.F.called_set.notType
  have h2 := PySem.F.called_set.canCreate
  have hct := PySem.F.typeCall_set_1 (.ref l)
  repeat (any_goals (first | assumption | wp_step))
  refine codeAny_mono (L2.code_set_led1 (.ref l) (E := E) (Q₁ := fun obj s₁ => obj = .ref s.heap.objs.size ∧ s₁ = { s with heap := s.heap.push { cls := .type "set", dict := none, data := .set #[] 0 (.fresh 0 0 (!w.params.followText "set-order")) } }) ⟨rfl, rfl⟩) fun r s₁ hr => ?_
  cases r with
  | error e => exact hr
  | ok fl =>
    cases fl with
    | ret obj =>
      obtain ⟨rfl, rfl⟩ := hr
      have hS : (s.heap.push { cls := .type "set", dict := none, data := .set #[] 0 (.fresh 0 0 (!w.params.followText "set-order")) }).get? s.heap.objs.size = some { cls := .type "set", dict := none, data := .set #[] 0 (.fresh 0 0 (!w.params.followText "set-order")) } := Heap.get?_push_size _ rfl
      have hT : Shared.TypeIs { s with heap := s.heap.push { cls := .type "set", dict := none, data := .set #[] 0 (.fresh 0 0 (!w.params.followText "set-order")) } } (.ref s.heap.objs.size) "set" := ⟨_, hS, rfl⟩
      have hli := PySem.F.called_set.init.lookup
      have hbi := PySem.F.called_set.init.bind (.ref s.heap.objs.size)
      repeat (any_goals (first | assumption | wp_step))
      refine codeAny_mono (codeAny_call_builtin (R := wants (fun r s₂ => r = .none ∧ ∃ h' tk L es ep t, s₂ = { s with heap := h', toks := tk } ∧ SetTR P w h' s.heap.objs.size L es ep t ∧ L2.Got ks ks.length L ∧
          (∀ b o, s.heap.get? b = some o → h'.get? b = some o)) E) PySem.F.called_set.init.plain PySem.F.entry_set_init (check_set_init_1 hT ?_)) fun r₂ s₂ hr₂ => ?_
      · obtain ⟨ol, hol, hcl, nl, hdl⟩ := hl
        obtain ⟨ocls, odict, odata, oslots⟩ := ol
        simp only at hcl hdl
        subst hcl; subst hdl
        have hol' : (s.heap.push { cls := .type "set", dict := none, data := .set #[] 0 (.fresh 0 0 (!w.params.followText "set-order")) }).get? l = some { cls := .type "tuple", dict := odict, data := .seq items nl, slots := oslots } := Heap.get?_push_of_some _ hol
        have hsls := PySem.F.sub_tuple_set
        have hslf := PySem.F.sub_tuple_frozenset
        have hne : (Value.type "tuple" == Value.type "dict") = false := by decide
        have hl1 : (s.heap.push { cls := .type "set", dict := none, data := .set #[] 0 (.fresh 0 0 (!w.params.followText "set-order")) }).IsTuple l items := ⟨_, hol', rfl, nl, rfl⟩
        unfold Builtin.«set.__init__» noKeywords Builtin.Frozenset.updateFrom
        generalize hPI : pyIter = PI
        wp_walk
        subst hPI
        refine wpAny_pyIter_tuple hl1 ?_
        refine wpAny_bind (wpAny_runValue ?_)
        have hlS : l < s.heap.objs.size := Heap.lt_size hol
        have hh3 : A.in1.in1.in1.handled = none := by simp [hh]
        have hneI : l ≠ (s.heap.push { cls := .type "set", dict := none, data := .set #[] 0 (.fresh 0 0 (!w.params.followText "set-order")) }).objs.size := by
          rw [Heap.size_push]; exact Nat.ne_of_lt (Nat.lt_succ_of_lt hlS)
        have hSf : s.heap.objs.size ∉ [(s.heap.push { cls := .type "set", dict := none, data := .set #[] 0 (.fresh 0 0 (!w.params.followText "set-order")) }).objs.size, l] := by
          rw [Heap.size_push]; simp only [List.mem_cons, List.not_mem_nil, or_false, not_or]
          exact ⟨Nat.ne_of_lt (Nat.lt_succ_self _), Nat.ne_of_gt hlS⟩
        have hval : ∀ (i : Nat) (v : Value), items[i]? = some v → ∃ p, ks[i]? = some p ∧ v = .ref p.1 := fun i v hv => by
          have q : items.toList[i]? = some v := by rw [Array.getElem?_toList]; exact hv
          rw [hit, List.getElem?_map] at q
          obtain ⟨p, e1, e2⟩ := Option.map_eq_some_iff.mp q
          exact ⟨p, e1, e2.symm⟩
        refine set_update_tups ((Walks.tuple hh3 _ l hneI items).toS) s.heap.objs.size
          hSf ks hisz few hval s.heap hk (none_at (Nat.le_refl _)) (fun b hb => none_at (by
            rw [List.mem_singleton.mp hb, Heap.size_push]
            exact Nat.le_succ _)) hu (items.size - 0) 0 _ (by omega) (Nat.zero_le _)
          ⟨⟨_, Heap.get?_push_size _ rfl, rfl, rfl⟩, (hl1.push _)⟩ (fun b o e => Heap.get?_push_of_some _ (Heap.get?_push_of_some _ e)) ?hS0 ?hR
        case hS0 => exact ⟨[], #[], 0, _, setTR_fresh (Heap.get?_push_of_some _ hS), L2.Got.zero ks⟩
        case hR =>
          intro s' L es ep t hm hS' g' hkp
          obtain ⟨h', g2, d', tk', os'⟩ := s'
          have eg : g2 = s.gens := hm.gens
          have ed : d' = s.drawn := hm.drawn
          have eo : os' = s.os := hm.os
          subst eg; subst ed; subst eo
          show wpAny _ _ _ _ _ _
          refine wpAny_pure ?_
          show wpAny _ _ (ret Value.none) _ _ _
          rw [hisz] at g'
          exact wpAny_pure ⟨rfl, h', tk', L, es, ep, t, rfl, hS', g', hkp⟩
      · cases r₂ with
        | error e => exact hr₂
        | ok fl₂ =>
          cases fl₂ with
          | ret r =>
            obtain ⟨rfl, h', tk, L, es, ep, t, rfl, hS', g', hk'⟩ := hr₂
            repeat (any_goals (first | assumption | wp_step))
            exact h _ _ _ _ _ _ hS' g' hk'
          | _ => exact hr₂.elim
    | _ => exact hr.elim
end
section
variable {X : Cx}
theorem nodup_few {α : Type} [DecidableEq α] : ∀ (l D : List α), l.Nodup → (∀ x ∈ l, x ∈ D) → l.length ≤ D.length
  | [], _, _, _ => Nat.zero_le _
  | x :: l, D, hn, hs => by
    have ⟨h1, h2⟩ := List.nodup_cons.mp hn
    have hx : x ∈ D := hs x (.head _)
    have ih := nodup_few l (D.erase x) h2 fun y hy => (List.mem_erase_of_ne (by intro e; subst e; exact h1 hy)).2 (hs y (.tail _ hy))
    have e := List.length_erase_of_mem hx
    have hp := List.length_pos_of_mem hx
    simp only [List.length_cons]
    omega
theorem got_len {ks L : List (Addr × List Int)} {i : Nat} (g : L2.Got ks i L) (hi : i ≤ ks.length) (nd : (ks.map (·.2)).Nodup) (nl : (L.map (·.2)).Nodup) : L.length = i := by
  refine Nat.le_antisymm g.len ?_
  have h1 : (ks.take i).map (·.2) ⊆ L.map (·.2) := fun x hx => by
    obtain ⟨p, hp, rfl⟩ := List.mem_map.mp hx
    exact g.all p hp
  have h2 : ((ks.take i).map (·.2)).Nodup := by
    rw [List.map_take]
    exact List.Sublist.nodup (List.take_sublist _ _) nd
  have h3 := nodup_few _ _ h2 h1
  rw [List.length_map, List.length_map, List.length_take] at h3
  omega
/-- len(set(t)), t a tuple of tuples of ints, all different -/
def tLenSetT (K : PySem.W.Frag) (ta : TE) : TE := fun σ H Q => ta σ H fun x H1 => ∃ (l : Addr) (ks : List (Addr × List Int)), x = V.ref l ∧ SqT K H1 l (ks.map fun p => V.ref p.1) ∧ (∀ p ∈ ks, SqT K H1 p.1 (p.2.map V.int)) ∧ ks.length < 64 ∧ (ks.map (·.2)).Nodup ∧ Q (.int ks.length) H1
theorem pe_lenSetT {a : Expr} {ta : TE} {p p2 q pos : Pos} (hc : X.calm = true) (hu : X.A.units + 64 < cLine) (hg : Gl X "len") (hm : X.mg "len" = none) (hg2 : Gl X "set") (hm2 : X.mg "set" = none) (ha : PE X a ta)
    (na : starEach [a] X.env = (false, eval a X.env) :: starEach [] X.env := by rfl) : PE X (.Call (.Name "len" p) [.Call (.Name "set" p2) [a] [] q] [] pos) (tLenSetT X.K ta) := by
  refine ⟨fun pins s σ H Q I h => ?_⟩
  refine Call_ (ld_blt I hg hm PySem.boot_len ?_)
  refine PyProof.Rows.callWith_builtin1 (PyProof.Rows.args_cons ?_ rfl) rfl rfl
  refine Call_ (ld_blt I hg2 hm2 PyProof.Rows.boot_set ?_)
  refine PyProof.Rows.callWith_type1 (PyProof.Rows.args_cons (thn (ha.run pins s σ H _ I h) fun v s1 ⟨x, H1, I1, r1, q1⟩ => PyProof.Rows.args_nil ?_) na) na rfl
  obtain ⟨l, ks, rfl, hq, hk, h1, hnd, q1⟩ := q1
  cases r1
  obtain ⟨its, rv, pl, hz⟩ := I1.tuple hq
  refine made (P := X.prog) (w := X.w) (ks := ks) (I1.ok.hd hc) pl (by simpa using refs_of_vals rv) (fun p hp => I1.isT (hk p hp)) h1 (by omega) fun h' tk L es ep t R g k => ?_
  refine PyProof.Rows.args_nil ?_
  have hL := got_len g (Nat.le_refl _) hnd R.nd
  have I2 : Inv X pins σ H1 { s1 with heap := h', toks := tk } := I1.kept fun b o e => k b o e
  obtain ⟨o, ho, hex, hd⟩ := R.ob
  refine call_len_set ho hex hd (SetTR.fits (s := { s1 with heap := h', toks := tk }) R) (by rw [SetTR.size (s := { s1 with heap := h', toks := tk }) R, hL]; omega) ⟨.int ks.length, H1, I2.tok _, ⟨_, by rw [SetTR.size (s := { s1 with heap := h', toks := tk }) R, hL]⟩, q1⟩
end
end SQ

/-! relations as numbers, and as lists of pairs -/
set_option linter.all false
namespace SQ
def orP : List Nat → Nat
  | [] => 0
  | b :: r => 2 ^ b ||| orP r
theorem orP_bit : ∀ (l : List Nat) (i : Nat), (orP l).testBit i = decide (i ∈ l)
  | [], i => by simp [orP]
  | b :: r, i => by
    show (2 ^ b ||| orP r).testBit i = _
    rw [Nat.testBit_or, Nat.testBit_two_pow, orP_bit r i]
    simp only [List.mem_cons, Bool.decide_or]
    congr 1
    exact decide_eq_decide.mpr eq_comm
theorem add_or {x b : Nat} (h : x.testBit b = false) : 2 ^ b + x = 2 ^ b ||| x := by
  have hr : x % 2 ^ (b + 1) < 2 ^ b := by
    refine Nat.lt_pow_two_of_testBit _ fun i hi => ?_
    rw [Nat.testBit_mod_two_pow]
    by_cases e : i = b
    · subst e
      rw [h, Bool.and_false]
    · rw [decide_eq_false (by omega), Bool.false_and]
  have hx : 2 ^ (b + 1) * (x / 2 ^ (b + 1)) + x % 2 ^ (b + 1) = x := Nat.div_add_mod _ _
  generalize x % 2 ^ (b + 1) = r at hr hx
  generalize x / 2 ^ (b + 1) = q at hx
  have e1 : 2 ^ b + r = 2 ^ b ||| r := by
    have := Nat.two_pow_add_eq_or_of_lt hr 1
    rwa [Nat.mul_one] at this
  have hp : 2 ^ (b + 1) = 2 ^ b * 2 := Nat.pow_succ ..
  have e2 : 2 ^ (b + 1) * q + (2 ^ b + r) = 2 ^ (b + 1) * q ||| (2 ^ b + r) := Nat.two_pow_add_eq_or_of_lt (by omega) q
  have e3 : 2 ^ (b + 1) * q + r = 2 ^ (b + 1) * q ||| r := Nat.two_pow_add_eq_or_of_lt (by omega) q
  have e4 : 2 ^ b + x = 2 ^ (b + 1) * q + (2 ^ b + r) := by omega
  rw [e4, e2, e1, ← hx, e3, ← Nat.or_assoc, ← Nat.or_assoc, Nat.or_comm (2 ^ (b + 1) * q)]
theorem sum_orP : ∀ {l : List Nat}, l.Nodup → (l.map (2 ^ ·)).sum = orP l
  | [], _ => rfl
  | b :: r, h => by
    have ⟨h1, h2⟩ := List.nodup_cons.mp h
    rw [List.map_cons, List.sum_cons, sum_orP h2, add_or (by rw [orP_bit]; exact decide_eq_false h1)]
    rfl
theorem orP_mem {l m : List Nat} (h : ∀ x, x ∈ l ↔ x ∈ m) : orP l = orP m := Nat.eq_of_testBit_eq fun i => by rw [orP_bit, orP_bit]; exact decide_eq_decide.mpr (h i)
theorem orP_app (l m : List Nat) : orP (l ++ m) = orP l ||| orP m := Nat.eq_of_testBit_eq fun i => by
  rw [Nat.testBit_or, orP_bit, orP_bit, orP_bit, ← Bool.decide_or]
  exact decide_eq_decide.mpr List.mem_append
abbrev Pr := Nat × Nat
def cd (e : Nat) (p : Pr) : Nat := p.1 * e + p.2
def bitsN (e : Nat) (ps : List Pr) : Nat := orP (ps.map (cd e))
def prs (e r : Nat) : List Pr := ((List.range 12).filter fun b => r.testBit b).map fun b => (b / e, b % e)
theorem cd_div {e : Nat} (b : Nat) : cd e (b / e, b % e) = b := by
  show b / e * e + b % e = b
  rw [Nat.mul_comm]
  exact Nat.div_add_mod b e
theorem cd_fst {e : Nat} {p : Pr} (h : p.2 < e) : cd e p / e = p.1 := by
  show (p.1 * e + p.2) / e = p.1
  rw [Nat.mul_comm, Nat.mul_add_div (by omega), Nat.div_eq_of_lt h, Nat.add_zero]
theorem cd_snd {e : Nat} {p : Pr} (h : p.2 < e) : cd e p % e = p.2 := by
  show (p.1 * e + p.2) % e = p.2
  rw [Nat.mul_comm, Nat.mul_add_mod, Nat.mod_eq_of_lt h]
theorem mem_prs {e r : Nat} (he : 0 < e) {p : Pr} : p ∈ prs e r ↔ p.2 < e ∧ cd e p < 12 ∧ r.testBit (cd e p) = true := by
  unfold prs
  rw [List.mem_map]
  constructor
  · rintro ⟨b, hb, rfl⟩
    rw [List.mem_filter, List.mem_range] at hb
    rw [cd_div]
    exact ⟨Nat.mod_lt _ he, hb⟩
  · rintro ⟨h1, h2, h3⟩
    refine ⟨cd e p, List.mem_filter.mpr ⟨List.mem_range.mpr h2, h3⟩, ?_⟩
    rw [cd_fst h1, cd_snd h1]
theorem cd_prs (e r : Nat) : (prs e r).map (cd e) = (List.range 12).filter fun b => r.testBit b := by
  unfold prs
  rw [List.map_map]
  conv => rhs; rw [← List.map_id ((List.range 12).filter fun b => r.testBit b)]
  exact List.map_congr_left fun b _ => cd_div b
theorem bit_lt {r i : Nat} (hr : r < 4096) (h : r.testBit i = true) : i < 12 := by
  refine Nat.lt_of_not_le fun hi => ?_
  rw [Nat.testBit_lt_two_pow (Nat.lt_of_lt_of_le hr (Nat.pow_le_pow_right (n := 2) (by decide) hi))] at h
  cases h
theorem bits_prs {e r : Nat} (hr : r < 4096) : bitsN e (prs e r) = r := Nat.eq_of_testBit_eq fun i => by
  unfold bitsN
  rw [orP_bit, cd_prs]
  cases h : r.testBit i with
  | true => exact decide_eq_true (List.mem_filter.mpr ⟨List.mem_range.mpr (bit_lt hr h), h⟩)
  | false => exact decide_eq_false fun z => by rw [(List.mem_filter.mp z).2] at h; cases h
theorem bits_mem {e : Nat} {ps qs : List Pr} (h : ∀ x, x ∈ ps ↔ x ∈ qs) : bitsN e ps = bitsN e qs := orP_mem fun x => by
  simp only [List.mem_map, h]
theorem bits_app (e : Nat) (ps qs : List Pr) : bitsN e (ps ++ qs) = bitsN e ps ||| bitsN e qs := by
  unfold bitsN
  rw [List.map_append, orP_app]
theorem prs_nodup (e r : Nat) : (prs e r).Nodup := by
  have h : ((prs e r).map (cd e)).Nodup := by
    rw [cd_prs]
    exact List.Pairwise.filter _ List.nodup_range
  exact List.Pairwise.of_map (cd e) (fun a b hne e => hne (congrArg _ e)) h
theorem prs_len (e r : Nat) : (prs e r).length ≤ 12 := by
  unfold prs
  rw [List.length_map]
  exact Nat.le_trans (List.length_filter_le _ _) (by rw [List.length_range]; exact Nat.le_refl _)
theorem prs_small {m e r : Nat} (he : 0 < e) (hr : r < 2 ^ (m * e)) {p : Pr} (h : p ∈ prs e r) : p.1 < m ∧ p.2 < e := by
  obtain ⟨h1, _, h3⟩ := (mem_prs he).mp h
  refine ⟨?_, h1⟩
  have hb : cd e p < m * e := by
    refine Nat.lt_of_not_le fun hi => ?_
    rw [Nat.testBit_lt_two_pow (Nat.lt_of_lt_of_le hr (Nat.pow_le_pow_right (n := 2) (by decide) hi))] at h3
    cases h3
  refine Nat.lt_of_not_le fun hm => ?_
  have := Nat.mul_le_mul_right e hm
  have e1 : cd e p = p.1 * e + p.2 := rfl
  omega
/-- the program looks at fewer bits -/
theorem few_bits {r k : Nat} (hk : k ≤ 12) (hr : r < 2 ^ k) : (List.range k).filter (fun b => r.testBit b) = (List.range 12).filter fun b => r.testBit b := by
  have e : List.range 12 = List.range k ++ (List.range (12 - k)).map (k + ·) := by
    rw [show 12 = k + (12 - k) by omega, List.range_add, show k + (12 - k) - k = 12 - k by omega]
  rw [e, List.filter_append]
  have z : ((List.range (12 - k)).map (k + ·)).filter (fun b => r.testBit b) = [] := by
    refine List.filter_eq_nil_iff.mpr fun b hb => ?_
    obtain ⟨c, _, rfl⟩ := List.mem_map.mp hb
    rw [Nat.testBit_lt_two_pow (Nat.lt_of_lt_of_le hr (Nat.pow_le_pow_right (by decide) (Nat.le_add_right k c)))]
    decide
  rw [z, List.append_nil]
theorem within_iff {e r s : Nat} (he : 0 < e) (hr : r < 4096) : ((prs e r).filter fun p => decide (p ∉ prs e s)) = [] ↔ r ||| s = s := by
  constructor
  · intro h
    refine Nat.eq_of_testBit_eq fun i => ?_
    rw [Nat.testBit_or]
    cases hi : r.testBit i with
    | false => rfl
    | true =>
      have hl := bit_lt hr hi
      have m : (i / e, i % e) ∈ prs e r := (mem_prs he).mpr ⟨Nat.mod_lt _ he, by rw [cd_div]; exact ⟨hl, hi⟩⟩
      have := List.filter_eq_nil_iff.mp h _ m
      have q : (i / e, i % e) ∈ prs e s := Classical.byContradiction fun z => this (decide_eq_true z)
      have := ((mem_prs he).mp q).2.2
      rw [cd_div] at this
      rw [this]
      rfl
  · intro h
    refine List.filter_eq_nil_iff.mpr fun p hp => ?_
    rw [decide_eq_true_eq]
    intro z
    obtain ⟨h1, h2, h3⟩ := (mem_prs he).mp hp
    refine z ((mem_prs he).mpr ⟨h1, h2, ?_⟩)
    rw [← h, Nat.testBit_or, h3, Bool.true_or]
theorem or_lt {a b k : Nat} (ha : a < 2 ^ k) (hb : b < 2 ^ k) : a ||| b < 2 ^ k := Nat.or_lt_two_pow ha hb
/-- the relation of all pairs (m, m) -/
def sameN (m e : Nat) : Nat := orP ((List.range m).map fun i => i * e + i)
end SQ
namespace SQ
theorem cast_sum (l : List Nat) : (l.map fun n : Nat => (n : Int)).sum = ((l.sum : Nat) : Int) := by
  induction l with
  | nil => rfl
  | cons x r ih => rw [List.map_cons, List.sum_cons, List.sum_cons, ih, Int.natCast_add]
theorem diag_nodup (m e : Nat) : ((List.range m).map fun i => i * e + i).Nodup := by
  rw [List.nodup_iff_pairwise_ne, List.pairwise_map]
  refine List.Pairwise.imp (fun {a b} h z => ?_) List.pairwise_lt_range
  have := Nat.mul_le_mul_right e (Nat.le_of_lt h)
  omega
theorem same_sum (m e : Nat) : ((List.range m).map fun i => ((2 ^ (i * e + i) : Nat) : Int)).sum = ((sameN m e : Nat) : Int) := by
  have h := sum_orP (diag_nodup m e)
  rw [List.map_map] at h
  rw [show sameN m e = orP ((List.range m).map fun i => i * e + i) from rfl, ← h, ← cast_sum, List.map_map]
  rfl
end SQ
namespace SQ
theorem and_bit (r i : Nat) : (r / 2 ^ i &&& 1) = (r.testBit i).toNat := by
  rw [Nat.testBit_eq_decide_div_mod_eq, Nat.and_one_is_mod]
  rcases Nat.mod_two_eq_zero_or_one (r / 2 ^ i) with h | h <;> rw [h] <;> rfl
theorem bit_ne (b : Bool) : (((b.toNat : Nat) : Int) != 0) = b := by cases b <;> rfl
end SQ
namespace SQ
theorem nodup_map {α β : Type} {f : α → β} {l : List α} (inj : ∀ a b, f a = f b → a = b) (h : l.Nodup) : (l.map f).Nodup := by
  rw [List.nodup_iff_pairwise_ne, List.pairwise_map]
  exact List.Pairwise.imp (fun n e => n (inj _ _ e)) h
theorem nodup_on {α β : Type} {f : α → β} : ∀ {l : List α}, (∀ a ∈ l, ∀ b ∈ l, f a = f b → a = b) → l.Nodup → (l.map f).Nodup
  | [], _, _ => List.nodup_nil
  | x :: r, inj, h => by
    have ⟨h1, h2⟩ := List.nodup_cons.mp h
    refine List.nodup_cons.mpr ⟨fun m => ?_, nodup_on (fun a ha b hb => inj a (.tail _ ha) b (.tail _ hb)) h2⟩
    obtain ⟨y, hy, e⟩ := List.mem_map.mp m
    exact h1 (inj y (.tail _ hy) x (.head _) e ▸ hy)
theorem nodup_codes {e m : Nat} {ps : List Pr} (h : ∀ x ∈ ps, x.1 < m ∧ x.2 < e) (nd : ps.Nodup) : (ps.map (cd e)).Nodup := nodup_on (fun a ha b hb z => by
  have ea := (h a ha).2
  have eb := (h b hb).2
  have h1 := cd_fst ea
  have h2 := cd_snd ea
  rw [z] at h1 h2
  exact Prod.ext (h1.symm.trans (cd_fst eb)) (h2.symm.trans (cd_snd eb))) nd
theorem bits_sum {α : Type} {e : Nat} (ks : List (α × Pr)) (nd : ((ks.map (·.2)).map (cd e)).Nodup) : (ks.map fun q => ((2 ^ cd e q.2 : Nat) : Int)).sum = ((bitsN e (ks.map (·.2)) : Nat) : Int) := by
  have h := sum_orP nd
  rw [List.map_map, List.map_map] at h
  rw [show bitsN e (ks.map (·.2)) = orP ((ks.map (·.2)).map (cd e)) from rfl, ← h, ← cast_sum, List.map_map]
  rfl
end SQ
namespace SQ
theorem perm_back {α β : Type} {f : α → β} {xs ys : List β} (h : xs.Perm ys) : ∀ {l : List α}, ys = l.map f → ∃ l' : List α, xs = l'.map f ∧ l'.Perm l := by
  induction h with
  | nil =>
    intro l e
    cases l with
    | nil => exact ⟨[], rfl, .refl _⟩
    | cons x r => cases e
  | cons x _ ih =>
    intro l e
    cases l with
    | nil => cases e
    | cons y r =>
      rw [List.map_cons] at e
      injection e with e1 e2
      obtain ⟨l', h1, h2⟩ := ih e2
      exact ⟨y :: l', by rw [List.map_cons, h1, e1], h2.cons y⟩
  | swap x y l0 =>
    intro l e
    match l, e with
    | u :: v :: r, e =>
      simp only [List.map_cons] at e
      injection e with e1 e2
      injection e2 with e2 e3
      exact ⟨v :: u :: r, by simp only [List.map_cons]; rw [e1, e2, e3], .swap _ _ _⟩
  | trans _ _ ih1 ih2 =>
    intro l e
    obtain ⟨l2, h1, h2⟩ := ih2 e
    obtain ⟨l3, h3, h4⟩ := ih1 h1
    exact ⟨l3, h3, h4.trans h2⟩
end SQ

set_option Elab.async false
set_option linter.all false
set_option maxRecDepth 100000
set_option maxHeartbeats 4000000
/-! own classes: ==, !=, str by their own defs; ranges as values; whole numbers from 0 on -/
namespace SQ
open PySem PySem.Spec PyProof.Rows L2
section
variable {X : Cx} {pins : List (Addr × Obj)} {σ : L2.St} {H : Hp} {s : Shared} {n : Nat} {A : Around} {CX : CXT} {C f : Addr} {fd : FuncData} {ps : List Str} {sp : Sp} {E : XK}
theorem looks_ty {x : V} {u t : Value} (I : Inv X pins σ H s) (rx : RelV x u) (ty : TyX X.K H x t) : PySem.W.Looks (model X.prog X.w) s.heap (typeOf u) t := by
  obtain ⟨P, k, p, _⟩ := kit_of I rx ty
  exact k.ty _ _ I.kIn p
theorem run_at {vs : List V} {us : List Value} {Q : VK} (sb : Sub X n A) (I : Inv X pins σ H s) (F : FnOk X.prog X.w X.K X.mg X.base CX n f fd ps sp) (hb : Binds X.K fd ps []) (hx : Passes CX X E) (r : Vals vs us) (h : sp vs H Q E) :
    wpAny (model X.prog X.w) A (call (.ref f) us) (fun u s' => ∃ v H', Inv X pins σ H' s' ∧ RelV v u ∧ Q v H') X.xe s := by
  have e0 : Env0 X.prog X.w X.K X.mg X.base A X.stack s H := by
    have e := I.env0
    exact ⟨by rw [sb.fr]; exact e.frames, e.mod, e.bs, e.bsz, e.funs, e.frf, e.hok, e.bare⟩
  have hl := F.len _ _ _ _ h
  refine wpAny_call (codeAny_mono (F.run A X.stack s H ⟨us, []⟩ us vs Q E sb.room e0 (by
    have := hb s us I.kIn (by rw [List.append_nil, ← r.length]; exact hl)
    simpa using this) r h) fun r s' hq => ?_)
  cases r with
  | error e => exact hx pins σ H s e s' I hq
  | ok fl =>
    cases fl with
    | ret w =>
      obtain ⟨z, H', I', rz, q⟩ := I.after hq
      exact ⟨z, H', I', rz, q⟩
    | next => exact False.elim hq
    | brk => exact False.elim hq
    | cont => exact False.elim hq
/-- x == y by the text's own == -/
def rEqO (K : PySem.W.Frag) (C : Addr) (sp : Sp) (E : XK) (neg : Bool) : R2 := fun x y H Q => ∃ a dx fs tb, x = .ref a ∧ H a = some (.ins C dx fs) ∧ TyX K H y tb ∧ PySem.W.notFirst K C tb = true ∧ sp [.ref a, y] H (fun v H' => ∃ b, v = .bl b ∧ Q (.bl (if neg then !b else b)) H') E
theorem op_eqOwn (hr : Room n X.A) (F : FnOk X.prog X.w X.K X.mg X.base CX n f fd ps sp) (hs : PySem.W.findIn X.K (.ref C) "__eq__" = some (some (.ref f))) (hf : PySem.W.isFn X.K (.ref f) = true) (hb : Binds X.K fd ps []) (hx : Passes CX X E) :
    OpR X (compareOp .Eq) (rEqO X.K C sp E false) := by
  intro pins s σ H x y v u Q I rx ry hq
  obtain ⟨a, dx, fs, tb, rfl, ha, ty, nf, q⟩ := hq
  cases rx
  obtain ⟨mA, J, _⟩ := ins_get I.hok ha
  obtain ⟨od, J, _⟩ := J.look
  obtain ⟨m, hF⟩ := I.fr
  show wpAny (model X.prog X.w) X.A (richCompare .Eq (.ref a) u) (EP X pins σ Q) X.xe s
  refine PySem.W.cmp_K (op := .Eq) (tb := tb) hr.units0 hF I.ok.mod.kin J (looks_ty I ry ty) nf hs hf ?_
  refine wpAny_mono (run_at ⟨hr, rfl⟩ I F hb hx (.cons (show RelV (V.ref a) (Value.ref a) from rfl) (.cons ry .nil)) q) (fun w s' h => ?_) fun _ _ z => z
  obtain ⟨z, H', I', rz, b, rfl, q2⟩ := h
  cases rz
  exact ⟨.bl b, H', I', rfl, q2⟩
theorem obj_ne {x : Addr} {b : Value} {ox : Obj} {od : Option Obj} {Q : Fin → Shared → Prop} (hu : A.units < cLine) (I : PySem.W.InstAt s.heap x ox C od) (K : PySem.W.Frag) (X0 : K.In s.heap)
    (hs : PySem.W.findIn K (.ref C) "__eq__" = some (some (.ref f))) (hf : PySem.W.isFn K (.ref f) = true) {E : Value → Shared → Prop} {prog : Program} {w : World}
    (h : wpAny (model prog w) A (call (.ref f) [.ref x, b]) (fun v s' => ∃ r, v = .bool r ∧ Q (.done (.ret (.bool (!r)))) s') E s) : wpAny (model prog w) A (Builtin.«object.__ne__» ⟨[.ref x, b], []⟩) Q E s := by
  unfold Builtin.«object.__ne__»
  refine wpAny_bind (m := slotArgs "__ne__" 1 _) (wpAny_pure ?_)
  refine wpAny_bind (m := cRoomFor _ _) (wpAny_cRoomFor hu ?_)
  refine wpAny_bind (m := callSpecialIfBound? (.ref x) (Str.ofString "__eq__") [b]) (PySem.W.ifBound_K X0 I hs hf (wpAny_mono h (fun v s' hv => ?_) fun _ _ y => y))
  obtain ⟨r, rfl, q⟩ := hv
  exact wpAny_bind (wpAny_truthy_bool (wpAny_pure q))
theorem ifBound_B {M : Model} {x : Addr} {ox : Obj} {od : Option Obj} {K : PySem.W.Frag} {name : Str} {id : String} {args : List Value} {Q : Option Value → Shared → Prop} {E : Value → Shared → Prop} (X0 : K.In s.heap) (I : PySem.W.InstAt s.heap x ox C od) (hs : PySem.W.findIn K (.ref C) name = some (some (.builtin id)))
    (hb : ∀ self, bindSpecial (.builtin id) self = pure (.builtin id, [self])) (h : wpAny M A (call (.builtin id) (.ref x :: args)) (fun v => Q (some v)) E s) : wpAny M A (callSpecialIfBound? (.ref x) name args) Q E s := by
  simp only [callSpecialIfBound?, bindSpecialIfBound?]
  refine wpAny_holding (wpAny_bind (wpAny_bind (wpAny_bind (I.type.here ((PySem.W.looks_findIn X0 hs).here ?_)))))
  refine wpAny_bind (wpAny_askSetting (wpAny_ite ?_))
  have fin : wpAny M A (call (.builtin id) ([.ref x] ++ args) >>= fun v => pure (some v)) Q E s := wpAny_bind (wpAny_mono h (fun v s' h' => wpAny_pure h') fun _ _ h' => h')
  split
  · exact wpAny_bind ((PySem.W.Looks.of_pure (hb _)).here (wpAny_pure (by exact fin)))
  · exact wpAny_tryCatch (wpAny_bind ((PySem.W.Looks.of_pure (hb _)).here (wpAny_pure (by exact fin))))
theorem op_neOwn (hr : Room (n + 1) X.A) (F : FnOk X.prog X.w X.K X.mg X.base CX n f fd ps sp) (hs : PySem.W.findIn X.K (.ref C) "__eq__" = some (some (.ref f))) (hf : PySem.W.isFn X.K (.ref f) = true) (hb : Binds X.K fd ps []) (hx : Passes CX X E)
    (hn : PySem.W.findIn X.K (.ref C) "__ne__" = some (some (.builtin "object.__ne__"))) (hm : PySem.W.mroIn X.K C (.type "object") = some true) : OpR X (compareOp .NotEq) (rEqO X.K C sp E true) := by
  intro pins s σ H x y v u Q I rx ry hq
  obtain ⟨a, dx, fs, tb, rfl, ha, ty, nf, q⟩ := hq
  cases rx
  obtain ⟨mA, J, _⟩ := ins_get I.hok ha
  obtain ⟨od, J, _⟩ := J.look
  have X0 := I.kIn
  have lt := looks_ty I ry ty
  have one : wpAny (model X.prog X.w) X.A (tryCompare (.ref a) (cmpInfo .NotEq).2.1 u) (fun r s' => ∃ v, r = some v ∧ EP X pins σ Q v s') X.xe s := by
    unfold tryCompare
    refine wpAny_bind (ifBound_B X0 J hn PySem.F.slot_object_ne.bind ?_)
    refine wpAny_call (codeAny_call_builtin PySem.F.slot_object_ne.plain PySem.F.cmpEntry_ne (PySem.W.check_slot (i := "object.__ne__") (owner := "object") (n := "__ne__") PySem.F.cmpKind_ne PySem.F.cmpSplit_ne (J.type.andThen (PySem.W.looks_mroIn X0 hm)) (PySem.F.cmpArgs_ne _ _) ?_))
    refine obj_ne hr.in1.units0 J X.K X0 hs hf ?_
    refine wpAny_mono (run_at ⟨hr.in1, rfl⟩ I F hb hx (.cons (show RelV (V.ref a) (Value.ref a) from rfl) (.cons ry .nil)) q) (fun w s' h => ?_) fun _ _ z => z
    obtain ⟨z, H', I', rz, b, rfl, q2⟩ := h
    cases rz
    exact ⟨b, rfl, wpAny_pure ⟨_, rfl, .bl (!b), H', I', rfl, q2⟩⟩
  show wpAny (model X.prog X.w) X.A (richCompare .NotEq (.ref a) u) (EP X pins σ Q) X.xe s
  unfold richCompare
  simp only [oneThing_ref]
  refine wpAny_holding (wpAny_bind (wpAny_cRoomFor hr.units0 ?_))
  refine wpAny_bind (J.type.here (wpAny_bind (lt.here ?_)))
  split
  · rename_i q
    have e : PySem.W.subIn X.K tb (.ref C) = some false := by
      rcases Bool.or_eq_true_iff.mp nf with e | e
      · rw [beq_iff_eq.mp e] at q; simp at q
      · exact beq_iff_eq.mp e
    refine wpAny_bind ((PySem.W.looks_subIn X0 e).here ?_)
    simp only [Bool.false_eq_true, if_false]
    refine wpAny_bind (wpAny_mono one (fun r s' z => ?_) fun _ _ e => e)
    obtain ⟨v, rfl, hq⟩ := z
    exact wpAny_pure hq
  · refine wpAny_bind (wpAny_pure ?_)
    simp only [Bool.false_eq_true, if_false]
    refine wpAny_bind (wpAny_mono one (fun r s' z => ?_) fun _ _ e => e)
    obtain ⟨v, rfl, hq⟩ := z
    exact wpAny_pure hq
/-- str(x) by the text's own __str__ -/
theorem cr_strOwn (hr : Room (n + 2) X.A) (F : FnOk X.prog X.w X.K X.mg X.base CX n f fd ps sp) (hs : PySem.W.findIn X.K (.ref C) "__str__" = some (some (.ref f))) (hf : PySem.W.isFn X.K (.ref f) = true) (hb : Binds X.K fd ps []) (hx : Passes CX X E) :
    CallR X (.type "str") (fun xs H Q => ∃ a dx fs, xs = [.ref a] ∧ H a = some (.ins C dx fs) ∧ sp [.ref a] H (fun v H' => ∃ z, v = .str z ∧ Q (.str z) H') E) := by
  intro pins s σ H vs us Q I r h
  obtain ⟨a, dx, fs, rfl, ha, q⟩ := h
  rw [Vals.ref1 r]
  obtain ⟨mA, J, _⟩ := ins_get I.hok ha
  obtain ⟨od, J, _⟩ := J.look
  refine PySem.W.kso_call hr.in1.in1.units0 I.kIn J hs hf ?_
  refine wpAny_mono (run_at ⟨hr.in1.in1, rfl⟩ I F hb hx (.cons (show RelV (V.ref a) (Value.ref a) from rfl) .nil) q) (fun w s' h => ?_) fun _ _ z => z
  obtain ⟨z, H', I', rz, z, rfl, q2⟩ := h
  obtain ⟨t, rfl⟩ := rz
  exact ⟨.str z, H', I', ⟨_, rfl⟩, q2⟩
end
section
variable {X : Cx}
/-! ### ranges kept -/
theorem cr_range1 : CallR X (.type "range") (fun vs H Q => ∃ j, vs = [V.int j] ∧ ∀ p, H p = none → Q (.ref p) (upd H p (.rng 0 j))) := by
  intro pins s σ H vs us Q I r h
  obtain ⟨j, rfl, q⟩ := h
  obtain ⟨u, rfl, t, rfl⟩ := vals1 r
  refine call_range_1 ⟨.ref s.heap.objs.size, upd H s.heap.objs.size (.rng 0 j), I.laid (t' := s.toks + 2) (fun b o e => Heap.get?_push_of_some _ e) (Nat.le_refl _) ?_, rfl, q _ (I.hok.fresh (Nat.le_refl _))⟩
  exact ⟨_, _, _, Heap.get?_push_size _ rfl⟩
def iRngV (tl : TE) : TI := fun σ H R => tl σ H fun x H1 => ∃ a lo hi, x = .ref a ∧ H1 a = some (.rng lo hi) ∧ (-(2 ^ 62) ≤ lo ∧ lo < 2 ^ 62 ∧ -(2 ^ 62) ≤ hi ∧ hi < 2 ^ 62) ∧ R (Itr lo (hi - lo).toNat) H1
theorem pi_rngV {tg l : Expr} {tl : TE} (hl : PE X l tl) : PI X tg l (iRngV tl) := by
  refine ⟨fun pins s σ H R I h => ?_⟩
  refine thn (hl.run pins s σ H _ I h) fun v s1 ⟨x, H1, I1, r1, q1⟩ => ?_
  obtain ⟨a, lo, hi, rfl, ha, ⟨h1, h2, h3, h4⟩, q⟩ := q1
  cases r1
  obtain ⟨t, u, v, ho⟩ := I1.hok a _ ha
  refine wpAny_pyIter_range (r := a) (a := lo) (b := hi) (c := 1) ho (small_one h1 h2 h3 h4) ?_
  refine ⟨s1.heap.objs.size, [s1.heap.objs.size], _, _, H1, rfl, I1.kept fun b o e => Heap.get?_push_of_some _ e, turn_range _ lo (hi - lo).toNat, ?_, fun b hb => ?_, q⟩
  · have e1 : lo + ((0 : Nat) : Int) * 1 = lo := by simp
    have e2 : (((hi - lo).toNat : Nat) : Int) - ((0 : Nat) : Int) = Builtin.Range.rangeSize lo hi 1 := by rw [rangeSize_one]; split <;> omega
    show IsRangeIter _ _ (lo + ((0 : Nat) : Int) * 1) ((((hi - lo).toNat : Nat) : Int) - ((0 : Nat) : Int)) 1
    rw [e1, e2]
    exact Heap.get?_push_size _ rfl
  · have e : b = s1.heap.objs.size := by simpa using hb
    subst e
    exact I1.fpOk (Nat.le_refl _) (I1.hok.fresh (Nat.le_refl _))
/-! ### whole numbers from 0 on -/
theorem op_shlNN : OpR X (binaryOp .LShift) (fun x y H Q => ∃ n k : Nat, x = .int (n : Int) ∧ y = .int (k : Int) ∧ n < 2 ^ 64 ∧ k ≤ 1000000 ∧ Q (.int ((n * 2 ^ k : Nat) : Int)) H) := by
  intro pins s σ H x y v u Q I rx ry h
  obtain ⟨n, k, rfl, rfl, c1, c2, q⟩ := h
  have e : ((n * 2 ^ k : Nat) : Int) = (n : Int) * 2 ^ ((k : Int)).toNat := by rw [Int.toNat_natCast, Int.natCast_mul, PySem.W.kbt_cast]
  rw [e] at q
  exact op_shl pins s σ H _ _ v u Q I rx ry ⟨_, _, rfl, rfl, ⟨Int.natCast_nonneg _, by omega, by omega⟩, q⟩
theorem op_shrNN : OpR X (binaryOp .RShift) (fun x y H Q => ∃ n k : Nat, x = .int (n : Int) ∧ y = .int (k : Int) ∧ Q (.int ((n / 2 ^ k : Nat) : Int)) H) := by
  intro pins s σ H x y v u Q I rx ry h
  obtain ⟨n, k, rfl, rfl, q⟩ := h
  have e : ((n / 2 ^ k : Nat) : Int) = (n : Int) / 2 ^ k := by rw [Int.natCast_ediv, PySem.W.kbt_cast]
  rw [e] at q
  exact op_shrN pins s σ H _ _ v u Q I rx ry ⟨_, _, rfl, rfl, q⟩
theorem op_orNN : OpR X (binaryOp .BitOr) (fun x y H Q => ∃ n m : Nat, x = .int (n : Int) ∧ y = .int (m : Int) ∧ Q (.int ((n ||| m : Nat) : Int)) H) := by
  intro pins s σ H x y v u Q I rx ry h
  obtain ⟨n, m, rfl, rfl, q⟩ := h
  have e := bitOr_nn (Int.natCast_nonneg n) (Int.natCast_nonneg m)
  rw [Int.toNat_natCast, Int.toNat_natCast] at e
  rw [← e] at q
  exact op_or pins s σ H _ _ v u Q I rx ry ⟨_, _, rfl, rfl, q⟩
theorem iop_orNN : OpR X (inplaceOp .BitOr) (fun x y H Q => ∃ n m : Nat, x = .int (n : Int) ∧ y = .int (m : Int) ∧ Q (.int ((n ||| m : Nat) : Int)) H) := by
  intro pins s σ H x y v u Q I rx ry h
  obtain ⟨n, m, rfl, rfl, q⟩ := h
  have e := bitOr_nn (Int.natCast_nonneg n) (Int.natCast_nonneg m)
  rw [Int.toNat_natCast, Int.toNat_natCast] at e
  rw [← e] at q
  exact iop_or pins s σ H _ _ v u Q I rx ry ⟨_, _, rfl, rfl, q⟩
theorem op_andNN : OpR X (binaryOp .BitAnd) (fun x y H Q => ∃ n m : Nat, x = .int (n : Int) ∧ y = .int (m : Int) ∧ Q (.int ((n &&& m : Nat) : Int)) H) := by
  intro pins s σ H x y v u Q I rx ry h
  obtain ⟨n, m, rfl, rfl, q⟩ := h
  have e : Builtin.bitAnd (n : Int) (m : Int) = ((n &&& m : Nat) : Int) := by
    have := bitAnd_pp (Int.natCast_nonneg n) (Int.natCast_nonneg m)
    rw [Int.toNat_natCast, Int.toNat_natCast] at this
    exact this
  rw [← e] at q
  exact op_and pins s σ H _ _ v u Q I rx ry ⟨_, _, rfl, rfl, q⟩
theorem op_modNN : OpR X (binaryOp .Mod) (fun x y H Q => ∃ n m : Nat, x = .int (n : Int) ∧ y = .int (m : Int) ∧ 1 ≤ m ∧ Q (.int ((n % m : Nat) : Int)) H) := by
  intro pins s σ H x y v u Q I rx ry h
  obtain ⟨n, m, rfl, rfl, c, q⟩ := h
  rw [Int.natCast_emod] at q
  exact op_mod pins s σ H _ _ v u Q I rx ry ⟨_, _, rfl, rfl, show (0 : Int) < (m : Int) by omega, q⟩
/-- divmod of whole numbers -/
theorem call_divmodN : CallR X (.builtin "divmod") (fun xs H Q => ∃ n m : Nat, xs = [.int (n : Int), .int (m : Int)] ∧ (1 ≤ m ∧ m < 1073741824) ∧ ∀ p, H p = none → Q (.ref p) (upd H p (.tup [.int ((n / m : Nat) : Int), .int ((n % m : Nat) : Int)]))) := by
  intro pins s σ H xs us Q I r h
  obtain ⟨n, m, rfl, ⟨c1, c2⟩, q⟩ := h
  refine call_divmod pins s σ H _ us Q I r ⟨_, _, rfl, ⟨by omega, by omega⟩, fun p hp => ?_⟩
  rw [← Int.natCast_ediv, ← Int.natCast_emod]
  exact q p hp
end
end SQ

set_option Elab.async false
set_option linter.all false
set_option maxRecDepth 100000
set_option maxHeartbeats 4000000
namespace SQ
open PySem PySem.Spec PyProof.Rows L2
structure Cal (P : Program) (w : World) (K : PySem.W.Frag) (mg : Str → Option Value) (base : Heap) (k : Nat) (x : Str) (ps : List Str) (sp : Sp) : Prop where
  ex : ∃ (f : Addr) (fd : FuncData), FnOk P w K mg base CX0 k f fd ps sp ∧ mg x = some (.ref f) ∧ PySem.W.keepIn K (.ref f) = true ∧ Binds K fd ps []
theorem pe_own {X : Cx} {x : Str} {k : Nat} {ps : List Str} {sp : Sp} {e : Expr} {es : List Expr} {t : TA} {p pos : Pos} (C : Cal X.prog X.w X.K X.mg X.base k x ps sp) (hr : Room k X.A) (hg : Gl X x) (ha : PA X (e :: es) t) (hdb : (x == ("__debug__" : Str)) = false := by decide) (he : starEach (e :: es) X.env = (false, eval e X.env) :: starEach es X.env := by rfl) (hpl : (backTo pos (starEach es X.env)).any (·.1) = false := by rfl) :
    PE X (.Call (.Name x p) (e :: es) [] pos) (tCall sp [] E0 t) := by
  obtain ⟨f, fd, F, m, kp, b⟩ := C.ex
  exact pe_call F hr hg m kp b .nil pass0 ha hdb he hpl
def CPowW (i j : Int) : Prop := 0 ≤ j ∧ (Builtin.Int.intBits i : Int) * j ≤ 2 ^ 27
theorem op_powW {X : Cx} : OpR X (binaryOp .Pow) (rI CPowW fun i j => .int (i ^ j.toNat)) := opI fun _ _ _ _ _ _ _ hc q => pow_int hc.1 hc.2 q
/-! ### heaps -/
theorem same_upd {H : Hp} {p : Addr} {o : HO} (h : H p = none) : Same H (upd H p o) := fun b x e => by
  rw [upd_ne (ne_of_none e h)]
  exact e
theorem Same.trans {H H1 H2 : Hp} (a : Same H H1) (b : Same H1 H2) : Same H H2 := fun p o e => b p o (a p o e)
theorem Same.rfl {H : Hp} : Same H H := fun _ _ e => e
theorem Same.seq {K : PySem.W.Frag} {H H' : Hp} {b : Addr} {xs : List V} (g : Same H H') (h : SqL K H b xs) : SqL K H' b xs := by
  rcases h with (h | ⟨o, h⟩) | h
  · exact .inl (.inl (g _ _ h))
  · exact .inl (.inr ⟨o, g _ _ h⟩)
  · exact .inr h
theorem Same.sqT {K : PySem.W.Frag} {H H' : Hp} {b : Addr} {xs : List V} (g : Same H H') (h : SqT K H b xs) : SqT K H' b xs := by
  rcases h with (h | ⟨o, h⟩) | h
  · exact .inl (.inl (g _ _ h))
  · exact .inl (.inr ⟨o, g _ _ h⟩)
  · exact .inr h
/-- a new object is changed again -/
theorem Same.set {H H' : Hp} {D : Addr} {o : HO} (s : Same H H') (h : H D = none) : Same H (upd H' D o) := fun b x e => by
  rw [upd_ne (ne_of_none e h)]
  exact s b x e
theorem tupT {K : PySem.W.Frag} {H : Hp} {p : Addr} {xs : List V} (h : H p = some (.tup xs)) : SqT K H p xs := .inl (.inl h)
theorem lstL {K : PySem.W.Frag} {H : Hp} {p : Addr} {xs : List V} (h : H p = some (.lst xs)) : SqL K H p xs := .inl (.inl h)
def Die (H : Hp) (a : Addr) : Prop := ∃ x y z : Int, H a = some (.lst [.int x, .int y, .int z])
/-- all but a is as it was, and a is an urn -/
def Go (a : Addr) (H H' : Hp) : Prop := (∀ b o, b ≠ a → H b = some o → H' b = some o) ∧ Die H' a
theorem Die.same {H H' : Hp} {a : Addr} (d : Die H a) (s : Same H H') : Die H' a := by
  obtain ⟨x, y, z, e⟩ := d
  exact ⟨x, y, z, s _ _ e⟩
theorem Go.of {H H' : Hp} {a : Addr} (d : Die H a) (s : Same H H') : Go a H H' := ⟨fun b o _ e => s b o e, d.same s⟩
theorem Go.trans {H H1 H2 : Hp} {a : Addr} (x : Go a H H1) (y : Go a H1 H2) : Go a H H2 := ⟨fun b o n e => y.1 b o n (x.1 b o n e), y.2⟩
theorem Go.then {H H1 H2 : Hp} {a : Addr} (x : Go a H H1) (y : Same H1 H2) : Go a H H2 := x.trans (.of x.2 y)
theorem Go.put {H : Hp} {a : Addr} {x y z : Int} : Go a H (upd H a (.lst [.int x, .int y, .int z])) := ⟨fun b o n e => by rw [upd_ne n]; exact e, x, y, z, upd_same⟩
theorem Go.new {H : Hp} {a p : Addr} {o : HO} (d : Die H a) (h : H p = none) : Go a H (upd H p o) := .of d (same_upd h)
theorem Die.ne {H : Hp} {a p : Addr} (d : Die H a) (h : H p = none) : p ≠ a := fun e => by
  obtain ⟨x, y, z, q⟩ := d
  rw [← e, h] at q
  cases q
theorem Die.neT {H : Hp} {a p : Addr} {o : HO} (d : Die H a) (h : H p = some o) (n : ∀ xs, o ≠ .lst xs) : p ≠ a := fun e => by
  obtain ⟨x, y, z, q⟩ := d
  rw [← e, h] at q
  exact n _ (Option.some.inj q)
theorem Go.seq {K : PySem.W.Frag} {H H' : Hp} {a b : Addr} {xs : List V} (g : Go a H H') (n : b ≠ a) (h : SqL K H b xs) : SqL K H' b xs := by
  rcases h with (h | ⟨o, h⟩) | h
  · exact .inl (.inl (g.1 _ _ n h))
  · exact .inl (.inr ⟨o, g.1 _ _ n h⟩)
  · exact .inr h
theorem Go.sqT {K : PySem.W.Frag} {H H' : Hp} {a b : Addr} {xs : List V} (d : Die H a) (g : Go a H H') (h : SqT K H b xs) : SqT K H' b xs := by
  rcases h with (h | ⟨o, h⟩) | h
  · exact .inl (.inl (g.1 _ _ (d.neT h (by intro xs z; cases z)) h))
  · exact .inl (.inr ⟨o, g.1 _ _ (d.neT h (by intro xs z; cases z)) h⟩)
  · exact .inr h
/-! ### the module's names -/
structure Nm (mg : Str → Option Value) : Prop where
  b_isinstance : mg "isinstance" = none
  b_int : mg "int" = none
  b_bool : mg "bool" = none
  b_str : mg "str" = none
  b_tuple : mg "tuple" = none
  b_list : mg "list" = none
  b_len : mg "len" = none
  b_all : mg "all" = none
  b_sum : mg "sum" = none
  b_set : mg "set" = none
  b_range : mg "range" = none
  b_abs : mg "abs" = none
  b_max : mg "max" = none
  b_min : mg "min" = none
  b_sorted : mg "sorted" = none
  b_divmod : mg "divmod" = none
  b_repr : mg "repr" = none
  b_zip : mg "zip" = none
  g_MAX_MODES : ∃ t, mg "MAX_MODES" = some (.int 3 t)
theorem at0 {x : V} {xs : List V} : atI (x :: xs) 0 = some x := atI_nat (j := 0) rfl
theorem at1 {x y : V} {xs : List V} : atI (x :: y :: xs) 1 = some y := atI_nat (j := 1) rfl
theorem at2 {x y z : V} {xs : List V} : atI (x :: y :: z :: xs) 2 = some z := atI_nat (j := 2) rfl
/-! ### values that are passed -/
/-- None, a bool, a whole number, a tuple, a list, a dict -/
inductive Pl (K : PySem.W.Frag) (H : Hp) : V → Prop
  | non : Pl K H .non
  | bl (b : Bool) : Pl K H (.bl b)
  | int (i : Int) : Pl K H (.int i)
  | tup {p : Addr} {xs : List V} (e : SqT K H p xs) : Pl K H (.ref p)
  | lst {p : Addr} {xs : List V} (e : H p = some (.lst xs)) : Pl K H (.ref p)
  | dct {p : Addr} {kvs : List (Key × V)} (e : H p = some (.dK kvs)) : Pl K H (.ref p)
def isI : V → Bool
  | .int _ => true
  | _ => false
/-- an integer from a to b -/
def inB (a b : Int) : V → Bool
  | .int i => decide (a ≤ i) && decide (i ≤ b)
  | _ => false
/-! ### pairs -/
def prV (p : Pr) : List V := [.int (p.1 : Int), .int (p.2 : Int)]
def Prs (K : PySem.W.Frag) (H : Hp) (ks : List (Addr × Pr)) : Prop := ∀ q ∈ ks, SqT K H q.1 (prV q.2)
abbrev refs (ks : List (Addr × Pr)) : List V := ks.map fun q => V.ref q.1
abbrev prsOf (ks : List (Addr × Pr)) : List Pr := ks.map (·.2)
theorem Prs.same {K : PySem.W.Frag} {H H' : Hp} {ks : List (Addr × Pr)} (g : Prs K H ks) (s : Same H H') : Prs K H' ks := fun q hq => Same.sqT s (g q hq)
theorem Prs.go {K : PySem.W.Frag} {H H' : Hp} {a : Addr} {ks : List (Addr × Pr)} (g : Prs K H ks) (d : Die H a) (s : Go a H H') : Prs K H' ks := fun q hq => Go.sqT d s (g q hq)
theorem Prs.nil {K : PySem.W.Frag} {H : Hp} : Prs K H [] := fun q hq => nomatch hq
theorem Prs.app {K : PySem.W.Frag} {H : Hp} {ks ls : List (Addr × Pr)} (a : Prs K H ks) (b : Prs K H ls) : Prs K H (ks ++ ls) := fun q hq => (List.mem_append.mp hq).elim (a q) (b q)
theorem Prs.one {K : PySem.W.Frag} {H : Hp} {p : Addr} {x : Pr} (h : SqT K H p (prV x)) : Prs K H [(p, x)] := fun q hq => by
  cases List.mem_singleton.mp hq
  exact h
/-! ### spaces -/
def en (m : Nat) (b : Bool) : Nat := m + b.toNat
def spF (m : Nat) (b : Bool) : List (Str × V) := [("_modes", .int (m : Int)), ("_watched", .bl b), ("_ends", .int (en m b : Nat)), ("_size", .int ((2 ^ (m * en m b) : Nat) : Int)), ("_same", .int (sameN m (en m b) : Nat))]
def SpAt (C : Addr) (H : Hp) (p : Addr) (m : Nat) (b : Bool) : Prop := (1 ≤ m ∧ m ≤ 3) ∧ ∃ dx, H p = some (.ins C dx (spF m b))
theorem SpAt.same {C : Addr} {H H' : Hp} {p : Addr} {m : Nat} {b : Bool} (h : SpAt C H p m b) (s : Same H H') : SpAt C H' p m b := ⟨h.1, by
  obtain ⟨dx, e⟩ := h.2
  exact ⟨dx, s _ _ e⟩⟩
theorem SpAt.go {C : Addr} {H H' : Hp} {p a : Addr} {m : Nat} {b : Bool} (h : SpAt C H p m b) (d : Die H a) (s : Go a H H') : SpAt C H' p m b := ⟨h.1, by
  obtain ⟨dx, e⟩ := h.2
  exact ⟨dx, s.1 _ _ (d.neT e (by intro xs z; cases z)) e⟩⟩
theorem en_le {m : Nat} {b : Bool} (h : 1 ≤ m ∧ m ≤ 3) : 1 ≤ en m b ∧ en m b ≤ 4 := by
  unfold en
  cases b <;> simp [Bool.toNat] <;> omega
theorem men_le {m : Nat} {b : Bool} (h : 1 ≤ m ∧ m ≤ 3) : m * en m b ≤ 12 := by
  have h1 := (en_le (b := b) h).2
  have := Nat.mul_le_mul h.2 h1
  omega
theorem size_le {m : Nat} {b : Bool} (h : 1 ≤ m ∧ m ≤ 3) : 2 ^ (m * en m b) ≤ 4096 := Nat.pow_le_pow_right (n := 2) (by decide) (men_le h)
/-- the class -/
structure SpC (K : PySem.W.Frag) (mg : Str → Option Value) (C : Addr) : Prop where
  cl : Cls K C
  gC : mg "Space" = some (.ref C)
  a1 : PySem.W.findIn K (.ref C) "_modes" = some none
  a2 : PySem.W.findIn K (.ref C) "_watched" = some none
  a3 : PySem.W.findIn K (.ref C) "_ends" = some none
  a4 : PySem.W.findIn K (.ref C) "_size" = some none
  a5 : PySem.W.findIn K (.ref C) "_same" = some none
  ha : PySem.W.findIn K (.ref C) "__class__" = some (some (.builtin "object.__class__"))
  hn : PySem.W.specialIn K (.builtin "object.__class__") "__get__" = some (some (.builtin "getset_descriptor.__get__"))
  htk : PySem.W.takesIn K (.builtin "object.__class__") = some true
  hm : PySem.W.mroIn K C (.type "object") = some true
  self : PySem.W.kitOne K (.ref C) (.ref C) = some true
  kt : PySem.W.kitOne K (.type "tuple") (.ref C) = some false
  nt : PySem.W.notFirst K C (.type "tuple") = true
  ns : PySem.W.notFirst K C (.ref C) = true
theorem lkH {k : Str} {v : V} {r : List (Str × V)} : List.lookup k ((k, v) :: r) = some v := by
  have e : (k == k) = true := beq_self_eq_true k
  simp only [List.lookup, e]
theorem lkP {k g : Str} {v : V} {r : List (Str × V)} (h : (k == g) = false) : List.lookup k ((g, v) :: r) = List.lookup k r := by
  simp only [List.lookup, h]
theorem putA {f g : Str} {v x : V} {r : List (Str × V)} (h : ¬ g = f) : putF f v ((g, x) :: r) = (g, x) :: putF f v r := if_neg h
section
variable {m : Nat} {b : Bool}
theorem lk1 : (spF m b).lookup ("_modes" : Str) = some (.int (m : Int)) := lkH
theorem lk2 : (spF m b).lookup ("_watched" : Str) = some (.bl b) := (lkP (by decide +kernel)).trans lkH
theorem lk3 : (spF m b).lookup ("_ends" : Str) = some (.int (en m b : Nat)) := (lkP (by decide +kernel)).trans ((lkP (by decide +kernel)).trans lkH)
theorem lk4 : (spF m b).lookup ("_size" : Str) = some (.int ((2 ^ (m * en m b) : Nat) : Int)) := (lkP (by decide +kernel)).trans ((lkP (by decide +kernel)).trans ((lkP (by decide +kernel)).trans lkH))
theorem lk5 : (spF m b).lookup ("_same" : Str) = some (.int (sameN m (en m b) : Nat)) := (lkP (by decide +kernel)).trans ((lkP (by decide +kernel)).trans ((lkP (by decide +kernel)).trans ((lkP (by decide +kernel)).trans lkH)))
end
section
variable {a b c d v : V}
theorem pf2 : putF "_watched" v [("_modes", a)] = ([("_modes", a), ("_watched", v)] : List (Str × V)) := by
  rw [putA (by decide +kernel)]
  rfl
theorem pf3 : putF "_ends" v [("_modes", a), ("_watched", b)] = ([("_modes", a), ("_watched", b), ("_ends", v)] : List (Str × V)) := by
  rw [putA (by decide +kernel), putA (by decide +kernel)]
  rfl
theorem pf4 : putF "_size" v [("_modes", a), ("_watched", b), ("_ends", c)] = ([("_modes", a), ("_watched", b), ("_ends", c), ("_size", v)] : List (Str × V)) := by
  rw [putA (by decide +kernel), putA (by decide +kernel), putA (by decide +kernel)]
  rfl
theorem pf5 : putF "_same" v [("_modes", a), ("_watched", b), ("_ends", c), ("_size", d)] = ([("_modes", a), ("_watched", b), ("_ends", c), ("_size", d), ("_same", v)] : List (Str × V)) := by
  rw [putA (by decide +kernel), putA (by decide +kernel), putA (by decide +kernel), putA (by decide +kernel)]
  rfl
theorem lkm1 : ([("_modes", a), ("_watched", b), ("_ends", c)] : List (Str × V)).lookup ("_ends" : Str) = some c := (lkP (by decide +kernel)).trans ((lkP (by decide +kernel)).trans lkH)
theorem lkm2 : ([("_modes", a), ("_watched", b), ("_ends", c), ("_size", d)] : List (Str × V)).lookup ("_ends" : Str) = some c := (lkP (by decide +kernel)).trans ((lkP (by decide +kernel)).trans lkH)
end
/-! ### the promises -/
def spInt (K : PySem.W.Frag) : Sp := fun vs H Q _ => ∃ v, vs = [v] ∧ Pl K H v ∧ Q (.bl (isI v)) H
def spIntIn (K : PySem.W.Frag) : Sp := fun vs H Q _ => ∃ (v : V) (a b : Int), vs = [v, .int a, .int b] ∧ Pl K H v ∧ Q (.bl (inB a b v)) H
def spSame : Sp := fun vs H Q _ => ∃ m e : Nat, vs = [.int (m : Int), .int (e : Int)] ∧ m ≤ 3 ∧ e ≤ 4 ∧ ∀ H', Same H H' → Q (.int (sameN m e : Nat)) H'
def spInit (C : Addr) : Sp := fun vs H Q _ => ∃ (p dx : Addr) (m : Nat) (b : Bool), vs = [.ref p, .int (m : Int), .bl b] ∧ H p = some (.ins C dx []) ∧ 1 ≤ m ∧ m ≤ 3 ∧ ∀ H', (∀ c o, c ≠ p → H c = some o → H' c = some o) → H' p = some (.ins C dx (spF m b)) → Q .non H'
/-- a field -/
def spGet (C : Addr) (x : Str) : Sp := fun vs H Q _ => ∃ (a dx : Addr) (fs : List (Str × V)) (v : V), vs = [.ref a] ∧ H a = some (.ins C dx fs) ∧ fs.lookup x = some v ∧ Q v H
def spIsRel (C : Addr) (K : PySem.W.Frag) : Sp := fun vs H Q _ => ∃ (p : Addr) (m : Nat) (b : Bool) (v : V), vs = [.ref p, v] ∧ SpAt C H p m b ∧ Pl K H v ∧ Q (.bl (inB 0 ((2 ^ (m * en m b) : Nat) - 1) v)) H
def spChkRel (C : Addr) : Sp := fun vs H Q _ => ∃ (p : Addr) (m : Nat) (b : Bool) (r : Nat), vs = [.ref p, .int (r : Int)] ∧ SpAt C H p m b ∧ r < 2 ^ (m * en m b) ∧ Q .non H
def spPairsOf (K : PySem.W.Frag) : Sp := fun vs H Q _ => ∃ r m e : Nat, vs = [.int (r : Int), .int (m : Int), .int (e : Int)] ∧ m * e ≤ 12 ∧ 1 ≤ e ∧ e ≤ 4 ∧ m ≤ 3 ∧ r < 2 ^ (m * e) ∧ ∀ (H' : Hp) (D : Addr) (ks : List (Addr × Pr)), Same H H' → H' D = some (.lst (refs ks)) → Prs K H' ks → prsOf ks = prs e r → Q (.ref D) H'
def spPairsP (C : Addr) (K : PySem.W.Frag) : Sp := fun vs H Q _ => ∃ (p : Addr) (m : Nat) (b : Bool) (r : Nat), vs = [.ref p, .int (r : Int)] ∧ SpAt C H p m b ∧ r < 2 ^ (m * en m b) ∧ ∀ H' l ks, Same H H' → SqT K H' l (refs ks) → Prs K H' ks → prsOf ks = prs (en m b) r → Q (.ref l) H'
def spIsPair (C : Addr) (K : PySem.W.Frag) : Sp := fun vs H Q _ => ∃ (p t : Addr) (m : Nat) (b : Bool) (x : Pr), vs = [.ref p, .ref t] ∧ SpAt C H p m b ∧ SqT K H t (prV x) ∧ x.1 < m ∧ x.2 < en m b ∧ Q (.bl true) H
def spRelation (C : Addr) (K : PySem.W.Frag) : Sp := fun vs H Q _ => ∃ (p l : Addr) (m : Nat) (b : Bool) (ks : List (Addr × Pr)), vs = [.ref p, .ref l] ∧ SpAt C H p m b ∧ SqT K H l (refs ks) ∧ Prs K H ks ∧ (prsOf ks).Nodup ∧ ks.length < 64 ∧ (∀ x ∈ prsOf ks, x.1 < m ∧ x.2 < en m b) ∧ ∀ H', Same H H' → Q (.int (bitsN (en m b) (prsOf ks) : Nat)) H'
def spTwo (C : Addr) (g : Nat → Nat → Nat → Nat → V) : Sp := fun vs H Q _ => ∃ (p : Addr) (m : Nat) (b : Bool) (r s : Nat), vs = [.ref p, .int (r : Int), .int (s : Int)] ∧ SpAt C H p m b ∧ r < 2 ^ (m * en m b) ∧ s < 2 ^ (m * en m b) ∧ ∀ H', Same H H' → Q (g m (en m b) r s) H'
def gOr : Nat → Nat → Nat → Nat → V := fun _ _ r s => .int ((r ||| s : Nat) : Int)
def gIn : Nat → Nat → Nat → Nat → V := fun _ _ r s => .bl (decide (r ||| s = s))
/-- == with a space or a tuple -/
def spEq (C : Addr) (K : PySem.W.Frag) : Sp := fun vs H Q _ => ∃ (p : Addr) (m : Nat) (b : Bool) (y : V), vs = [.ref p, y] ∧ SpAt C H p m b ∧
  ((∃ q n c, y = .ref q ∧ SpAt C H q n c ∧ Q (.bl (decide (m = n) && (b == c))) H) ∨ (∃ t xs, y = .ref t ∧ SqT K H t xs ∧ Q (.bl false) H))
def txt (m : Nat) (b : Bool) : Str := Str.ofString (toString ((2 ^ (m * en m b) : Nat) : Int)) ++ (" relations of " : Str) ++ Str.ofString (toString (m : Int)) ++ (" modes" : Str) ++ (if b = true then (", watched" : Str) else ("" : Str))
def spStr (C : Addr) : Sp := fun vs H Q _ => ∃ (p : Addr) (m : Nat) (b : Bool), vs = [.ref p] ∧ SpAt C H p m b ∧ Q (.str (txt m b)) H
/-! the law's own -/
def spUrn (K : PySem.W.Frag) : Sp := fun vs H Q _ => ∃ (a : Addr) (ns : List Int) (i : Nat), vs = [.ref a, .int (i : Int)] ∧ SqL K H a (ns.map V.int) ∧ i ≤ 1000 ∧ ∀ H' p, Same H H' → H p = none → Die H' p → Q (.ref p) H'
def spTake : Sp := fun vs H Q _ => ∃ (a : Addr) (n : Nat), vs = [.ref a, .int (n : Int)] ∧ Die H a ∧ 0 < n ∧ n < 1000000 ∧ ∀ (r : Nat) H', r < n → Go a H H' → (∀ b, b ≠ a → H' b = H b) → Q (.int (r : Int)) H'
def spOne (K : PySem.W.Frag) : Sp := fun vs H Q _ => ∃ (a b : Addr) (xs : List V), Die H a ∧ vs = [.ref a, .ref b] ∧ SqL K H b xs ∧ b ≠ a ∧ xs ≠ [] ∧ xs.length < 1000 ∧ ∀ v H', v ∈ xs → Go a H H' → (∀ b, b ≠ a → H' b = H b) → Q v H'
def spSome (K : PySem.W.Frag) : Sp := fun vs H Q _ => ∃ (a b : Addr) (xs : List V), vs = [.ref a, .ref b, .int (xs.length : Nat)] ∧ Die H a ∧ SqL K H b xs ∧ b ≠ a ∧ xs.length ≤ 100 ∧ ∀ (ys : List V) H' p, ys.Perm xs → Go a H H' → H p = none → p ≠ a → H' p = some (.lst ys) → Q (.ref p) H'
def spPairsL (K : PySem.W.Frag) : Sp := fun vs H Q _ => ∃ (e r : Nat), vs = [.int (e : Int), .int (r : Int)] ∧ 1 ≤ e ∧ e ≤ 4 ∧ r < 4096 ∧ ∀ H' l ks, Same H H' → H l = none → H' l = some (.lst (refs ks)) → Prs K H' ks → prsOf ks = prs e r → Q (.ref l) H'
def spBits (K : PySem.W.Frag) : Sp := fun vs H Q _ => ∃ (e : Nat) (l : Addr) (ks : List (Addr × Pr)), vs = [.int (e : Int), .ref l] ∧ 1 ≤ e ∧ e ≤ 4 ∧ SqL K H l (refs ks) ∧ Prs K H ks ∧ ks.length < 64 ∧ (∀ x ∈ prsOf ks, x.2 < e ∧ cd e x < 12) ∧ ∀ H', Same H H' → Q (.int (bitsN e (prsOf ks) : Nat)) H'
def spWithin (K : PySem.W.Frag) : Sp := fun vs H Q _ => ∃ (l1 l2 : Addr) (ks ls : List (Addr × Pr)), vs = [.ref l1, .ref l2] ∧ SqL K H l1 (refs ks) ∧ SqL K H l2 (refs ls) ∧ Prs K H ks ∧ Prs K H ls ∧ ks.length ≤ 100 ∧ ls.length ≤ 100 ∧ ∀ H', Same H H' → Q (.bl (decide (((prsOf ks).filter fun p => decide (p ∉ prsOf ls)) = []))) H'
def spSizes : Sp := fun vs H Q _ => ∃ (m : Nat) (b : Bool), vs = [.int (m : Int), .bl b] ∧ 1 ≤ m ∧ m ≤ 3 ∧ ∀ H' l, Same H H' → H l = none → H' l = some (.lst [.int (en m b : Nat), .int ((2 ^ (m * en m b) : Nat) : Int)]) → Q (.ref l) H'
def spRight : Sp := fun vs H Q _ => ∃ (a : Addr), vs = [.ref a] ∧ Die H a ∧ ∀ H', Go a H H' → Q (.bl true) H'
def spLaw (K : PySem.W.Frag) : Sp := fun vs H Q _ => ∃ (a : Addr) (ns : List Int), vs = [.ref a] ∧ SqL K H a (ns.map V.int) ∧ ns.length ≤ 63 ∧ ∀ H', Q (.bl true) H'
end SQ

set_option Elab.async false
set_option linter.all false
set_option maxRecDepth 100000
set_option maxHeartbeats 4000000
/-! comprehensions whose turns only make new objects (or draw) -/
namespace SQ
open PySem PySem.Spec PyProof.Rows L2
inductive Al {α : Type} (Φ : α → V → Prop) : List α → List V → Prop
  | nil : Al Φ [] []
  | cons {m : α} {y : V} {ms : List α} {ys : List V} : Φ m y → Al Φ ms ys → Al Φ (m :: ms) (y :: ys)
theorem Al.len {α : Type} {Φ : α → V → Prop} {ms : List α} {ys : List V} (a : Al Φ ms ys) : ys.length = ms.length := by
  induction a with
  | nil => rfl
  | cons _ _ ih => rw [List.length_cons, List.length_cons, ih]
theorem Al.snoc {α : Type} {Φ : α → V → Prop} {ms : List α} {ys : List V} {m : α} {y : V} (a : Al Φ ms ys) (h : Φ m y) : Al Φ (ms ++ [m]) (ys ++ [y]) := by
  induction a with
  | nil => exact .cons h .nil
  | cons x _ ih => exact .cons x ih
theorem Al.mono {α : Type} {Φ Ψ : α → V → Prop} {ms : List α} {ys : List V} (h : ∀ m y, Φ m y → Ψ m y) (a : Al Φ ms ys) : Al Ψ ms ys := by
  induction a with
  | nil => exact .nil
  | cons x _ ih => exact .cons (h _ _ x) ih
theorem Al.map {α : Type} {f : α → V} {ms : List α} {ys : List V} (a : Al (fun m y => y = f m) ms ys) : ys = ms.map f := by
  induction a with
  | nil => rfl
  | cons x _ ih => rw [x, ih]; rfl
/-- what a turn may do to the heap -/
structure Rg (R : Hp → Hp → Prop) (D : Addr) (H1 : Hp) : Prop where
  ini : R H1 (upd H1 D (.lst []))
  trans : ∀ {H H'}, R H1 H → R H H' → R H1 H'
  keep : ∀ {H H' o}, R H1 H → R H H' → H D = some o → H' D = some o
  set : ∀ {H o}, R H1 H → R H1 (upd H D o)
  put : ∀ {H o}, R H1 H → ∀ (b : Addr) (u : HO), b ≠ D → H b = some u → upd H D o b = some u
theorem Rg.same {D : Addr} {H1 : Hp} (n : H1 D = none) : Rg Same D H1 := ⟨same_upd n, fun a b => a.trans b, fun _ b e => b _ _ e, fun a => Same.set a n, fun _ b u hb e => by rw [upd_ne hb]; exact e⟩
theorem Rg.go {D a : Addr} {H1 : Hp} (d : Die H1 a) (n : H1 D = none) : Rg (Go a) D H1 := ⟨.new d n, fun a b => a.trans b, fun _ b e => b.1 _ _ (d.ne n) e, fun {H o} s => ⟨fun b u hb e => by
    rw [upd_ne (ne_of_none e n)]
    exact s.1 b u hb e, by
    obtain ⟨x, y, z, e⟩ := s.2
    exact ⟨x, y, z, by rw [upd_ne (d.ne n).symm]; exact e⟩⟩, fun _ b u hb e => by rw [upd_ne hb]; exact e⟩
theorem filt_more {α : Type} {ms : List α} {i : Nat} {m : α} (p : α → Bool) (h : ms[i]? = some m) : (ms.take (i + 1)).filter p = (ms.take i).filter p ++ if p m = true then [m] else [] := by
  rw [take_next h, List.filter_append]
  by_cases e : p m = true
  · rw [if_pos e, List.filter_cons_of_pos e]
    rfl
  · rw [if_neg e, List.filter_cons_of_neg e]
    rfl
section
variable {α : Type} {g : TG} {tt : TT} {te : TE} {vs : List Nat} {σ : L2.St} {H1 : Hp} {D : Addr} {Qd : Hp → Prop} {R : Hp → Hp → Prop} {ms : List α} {gv : α → V} {p : α → Bool} {Φ : α → V → Hp → Prop}
/-- the state between two turns -/
def Mid (R : Hp → Hp → Prop) (p : α → Bool) (Φ : α → V → Hp → Prop) (ms : List α) (D : Addr) (H1 : Hp) (i : Nat) (H : Hp) : Prop := R H1 H ∧ ∃ ys, H D = some (.lst ys) ∧ Al (fun m y => Φ m y H) ((ms.take i).filter p) ys
theorem Mid.ini (r : Rg R D H1) : Mid R p Φ ms D H1 0 (upd H1 D (.lst [])) := ⟨r.ini, [], upd_same, by rw [List.take_zero]; exact .nil⟩
theorem Mid.turn (r : Rg R D H1) (st : ∀ m y H H', R H1 H → R H H' → Φ m y H → Φ m y H') (su : ∀ m y H o, R H1 H → (∃ ys, H D = some (.lst ys)) → Φ m y H → Φ m y (upd H D o)) (few : ms.length < 1000000) {i : Nat} {m : α} {H : Hp} (hm : ms[i]? = some m) (md : Mid R p Φ ms D H1 i H) :
    (p m = true → ∀ y H4, R H H4 → Φ m y H4 → ∃ acc, H4 D = some (.lst acc) ∧ acc.length < sizeLine ∧ Mid R p Φ ms D H1 (i + 1) (upd H4 D (.lst (acc ++ [y])))) ∧ (p m = false → ∀ H4, R H H4 → Mid R p Φ ms D H1 (i + 1) H4) := by
  obtain ⟨r1, ys, e, al⟩ := md
  have hi : i < ms.length := (List.getElem?_eq_some_iff.mp hm).1
  refine ⟨fun hp y H4 r4 h => ?_, fun hp H4 r4 => ?_⟩
  · refine ⟨ys, r.keep r1 r4 e, ?_, r.set (r.trans r1 r4), ys ++ [y], upd_same, ?_⟩
    · rw [al.len, sizeLine_eq]
      have := List.length_filter_le p (ms.take i)
      rw [List.length_take] at this
      omega
    · rw [filt_more p hm, if_pos hp]
      exact (al.mono fun m y h => su m y H4 _ (r.trans r1 r4) ⟨_, r.keep r1 r4 e⟩ (st m y H H4 r1 r4 h)).snoc (su m y H4 _ (r.trans r1 r4) ⟨_, r.keep r1 r4 e⟩ h)
  · refine ⟨r.trans r1 r4, ys, r.keep r1 r4 e, ?_⟩
    rw [filt_more p hm, if_neg (by rw [hp]; decide), List.append_nil]
    exact al.mono fun m y h => st m y H H4 r1 r4 h
/-- [.. for x in xs if ..], xs a list -/
theorem lcL {K : PySem.W.Frag} {a : Addr} {xs : List V} (ms : List α) (gv : α → V) (p : α → Bool) (Φ : α → V → Hp → Prop) (hx : xs = ms.map gv) (r : Rg R D H1) (sq : ∀ H, R H1 H → SqL K H a xs) (st : ∀ m y H H', R H1 H → R H H' → Φ m y H → Φ m y H') (su : ∀ m y H o, R H1 H → (∃ ys, H D = some (.lst ys)) → Φ m y H → Φ m y (upd H D o)) (few : ms.length < 1000000)
    (hs : ∀ m H (Ok : V → Hp → Prop) (No : Hp → Prop), m ∈ ms → R H1 H → (∃ ys, H D = some (.lst ys)) → (p m = true → ∀ y H4, R H H4 → Φ m y H4 → Ok y H4) → (p m = false → ∀ H4, R H H4 → No H4) → g (gv m) (wipe σ vs) H fun σ2 H2 => wipe σ2 vs = wipe σ vs ∧ tt σ2 H2 fun b H3 => if b = true then te σ2 H3 Ok else No H3)
    (hd : ∀ H ys, R H1 H → H D = some (.lst ys) → Al (fun m y => Φ m y H) (ms.filter p) ys → Qd H) :
    ∃ W : Nat → Nat → Hp → Prop, (∃ m, W 0 m (upd H1 D (.lst []))) ∧ ∀ i m H, W i m H →
      ((Itl K a).stop i H ∧ Qd H) ∨ ((Itl K a).go i H ∧ ∃ Nx : Hp → Prop, (∀ H', Nx H' → ∃ m', m' < m ∧ W (i + 1) m' H') ∧ ∀ x H', (Itl K a).yld i H x H' → g x (wipe σ vs) H' fun σ2 H2 => wipe σ2 vs = wipe σ vs ∧ tt σ2 H2 fun b H3 =>
        if b = true then te σ2 H3 fun y H4 => ∃ acc, H4 D = some (.lst acc) ∧ acc.length < sizeLine ∧ Nx (upd H4 D (.lst (acc ++ [y]))) else Nx H3) := by
  subst hx
  refine lc_list (xs := ms.map gv) (Mid R p Φ ms D H1) (Mid.ini r) (fun i H _ h => sq H h.1) (fun i x H hx md => ?_) (fun H md => ?_)
  · rw [List.getElem?_map] at hx
    obtain ⟨m, hm, rfl⟩ := Option.map_eq_some_iff.mp hx
    obtain ⟨t1, t2⟩ := Mid.turn r st su few hm md
    exact hs m H _ _ (List.mem_of_getElem? hm) md.1 (md.2.elim fun _ z => ⟨_, z.1⟩) t1 t2
  · obtain ⟨r1, ys, e, al⟩ := md
    rw [List.length_map, List.take_length] at al
    exact hd H ys r1 e al
/-- .. xs a tuple -/
theorem lcT {K : PySem.W.Frag} {a : Addr} {xs : List V} (ms : List α) (gv : α → V) (p : α → Bool) (Φ : α → V → Hp → Prop) (hx : xs = ms.map gv) (r : Rg R D H1) (sq : ∀ H, R H1 H → SqT K H a xs) (st : ∀ m y H H', R H1 H → R H H' → Φ m y H → Φ m y H') (su : ∀ m y H o, R H1 H → (∃ ys, H D = some (.lst ys)) → Φ m y H → Φ m y (upd H D o)) (few : ms.length < 1000000)
    (hs : ∀ m H (Ok : V → Hp → Prop) (No : Hp → Prop), m ∈ ms → R H1 H → (∃ ys, H D = some (.lst ys)) → (p m = true → ∀ y H4, R H H4 → Φ m y H4 → Ok y H4) → (p m = false → ∀ H4, R H H4 → No H4) → g (gv m) (wipe σ vs) H fun σ2 H2 => wipe σ2 vs = wipe σ vs ∧ tt σ2 H2 fun b H3 => if b = true then te σ2 H3 Ok else No H3)
    (hd : ∀ H ys, R H1 H → H D = some (.lst ys) → Al (fun m y => Φ m y H) (ms.filter p) ys → Qd H) :
    ∃ W : Nat → Nat → Hp → Prop, (∃ m, W 0 m (upd H1 D (.lst []))) ∧ ∀ i m H, W i m H →
      ((Itt K a).stop i H ∧ Qd H) ∨ ((Itt K a).go i H ∧ ∃ Nx : Hp → Prop, (∀ H', Nx H' → ∃ m', m' < m ∧ W (i + 1) m' H') ∧ ∀ x H', (Itt K a).yld i H x H' → g x (wipe σ vs) H' fun σ2 H2 => wipe σ2 vs = wipe σ vs ∧ tt σ2 H2 fun b H3 =>
        if b = true then te σ2 H3 fun y H4 => ∃ acc, H4 D = some (.lst acc) ∧ acc.length < sizeLine ∧ Nx (upd H4 D (.lst (acc ++ [y]))) else Nx H3) := by
  subst hx
  refine lc_tup (xs := ms.map gv) (Mid R p Φ ms D H1) (Mid.ini r) (fun i H _ h => sq H h.1) (fun i x H hx md => ?_) (fun H md => ?_)
  · rw [List.getElem?_map] at hx
    obtain ⟨m, hm, rfl⟩ := Option.map_eq_some_iff.mp hx
    obtain ⟨t1, t2⟩ := Mid.turn r st su few hm md
    exact hs m H _ _ (List.mem_of_getElem? hm) md.1 (md.2.elim fun _ z => ⟨_, z.1⟩) t1 t2
  · obtain ⟨r1, ys, e, al⟩ := md
    rw [List.length_map, List.take_length] at al
    exact hd H ys r1 e al
/-- .. range(n) -/
theorem lcR {n : Nat} (p : Nat → Bool) (Φ : Nat → V → Hp → Prop) (r : Rg R D H1) (st : ∀ m y H H', R H1 H → R H H' → Φ m y H → Φ m y H') (su : ∀ m y H o, R H1 H → (∃ ys, H D = some (.lst ys)) → Φ m y H → Φ m y (upd H D o)) (few : n < 1000000)
    (hs : ∀ (m : Nat) H (Ok : V → Hp → Prop) (No : Hp → Prop), m < n → R H1 H → (∃ ys, H D = some (.lst ys)) → (p m = true → ∀ y H4, R H H4 → Φ m y H4 → Ok y H4) → (p m = false → ∀ H4, R H H4 → No H4) → g (.int (m : Int)) (wipe σ vs) H fun σ2 H2 => wipe σ2 vs = wipe σ vs ∧ tt σ2 H2 fun b H3 => if b = true then te σ2 H3 Ok else No H3)
    (hd : ∀ H ys, R H1 H → H D = some (.lst ys) → Al (fun m y => Φ m y H) ((List.range n).filter p) ys → Qd H) :
    ∃ W : Nat → Nat → Hp → Prop, (∃ m, W 0 m (upd H1 D (.lst []))) ∧ ∀ i m H, W i m H →
      ((Itr 0 n).stop i H ∧ Qd H) ∨ ((Itr 0 n).go i H ∧ ∃ Nx : Hp → Prop, (∀ H', Nx H' → ∃ m', m' < m ∧ W (i + 1) m' H') ∧ ∀ x H', (Itr 0 n).yld i H x H' → g x (wipe σ vs) H' fun σ2 H2 => wipe σ2 vs = wipe σ vs ∧ tt σ2 H2 fun b H3 =>
        if b = true then te σ2 H3 fun y H4 => ∃ acc, H4 D = some (.lst acc) ∧ acc.length < sizeLine ∧ Nx (upd H4 D (.lst (acc ++ [y]))) else Nx H3) := by
  refine lc_range (lo := 0) (n := n) (Mid R p Φ (List.range n) D H1) (Mid.ini r) (fun i H hi md => ?_) (fun H md => ?_)
  · have hm : (List.range n)[i]? = some i := by rw [List.getElem?_range hi]
    obtain ⟨t1, t2⟩ := Mid.turn r st su (by rw [List.length_range]; exact few) hm md
    rw [Int.zero_add]
    exact hs i H _ _ hi md.1 (md.2.elim fun _ z => ⟨_, z.1⟩) t1 t2
  · obtain ⟨r1, ys, e, al⟩ := md
    rw [List.take_of_length_le (by rw [List.length_range]; exact Nat.le_refl _)] at al
    exact hd H ys r1 e al
end
/-- for k in range(n) -/
theorem for_rgN {n : Nat} {g : TG} {tb : TS} {D : Ends} {σ : L2.St} {H : Hp} (Pv : Nat → L2.St → Hp → Prop) (h0 : Pv 0 σ H)
    (hs : ∀ (i : Nat) σ H, i < n → Pv i σ H → g (.int (i : Int)) σ H fun σ2 H2 => tb { D with nx := Pv (i + 1), ct := Pv (i + 1), bk := D.nx } σ2 H2) (hd : ∀ σ H, Pv n σ H → D.nx σ H) :
    ∃ W : Nat → Nat → L2.St → Hp → Prop, (∃ m, W 0 m σ H) ∧ ∀ i m σ H, W i m σ H →
      ((Itr 0 n).stop i H ∧ D.nx σ H) ∨ ((Itr 0 n).go i H ∧ ∃ N : L2.St → Hp → Prop, (∀ σ' H', N σ' H' → ∃ m', m' < m ∧ W (i + 1) m' σ' H') ∧ ∀ x H', (Itr 0 n).yld i H x H' → g x σ H' fun σ2 H2 => tb { D with nx := N, ct := N, bk := D.nx } σ2 H2) :=
  for_range (lo := 0) (n := n) Pv h0 (fun i σ H hi p => by rw [Int.zero_add]; exact hs i σ H hi p) hd
end SQ

set_option Elab.async false
set_option linter.all false
set_option maxRecDepth 100000
set_option maxHeartbeats 4000000
/-! own methods, properties, the making of a space -/
namespace SQ
open PySem PySem.Spec PyProof.Rows L2
/-- a method -/
structure MCal (P : Program) (w : World) (K : PySem.W.Frag) (mg : Str → Option Value) (base : Heap) (C : Addr) (k : Nat) (x : Str) (ps : List Str) (sp : Sp) : Prop where
  ex : ∃ (f : Addr) (fd : FuncData), FnOk P w K mg base CX0 k f fd ps sp ∧ Meth K C x f ∧ Binds K fd ps []
/-- a property -/
structure PrP (P : Program) (w : World) (K : PySem.W.Frag) (mg : Str → Option Value) (base : Heap) (C : Addr) (x g : Str) : Prop where
  ex : ∃ p f fd, PropOf K C x p f ∧ FnOk P w K mg base CX0 1 f fd ["self"] (spGet C g) ∧ Binds K fd ["self"] []
section
variable {X : Cx} {C : Addr} {e o : Expr} {es : List Expr} {ta : TE} {t : TA} {x g m : Str} {k : Nat} {ps : List Str} {sp : Sp} {p pos apos : Pos}
theorem pe_ownM {pl : Sem Bool} (M : MCal X.prog X.w X.K X.mg X.base C k m ps sp) (c : Cls X.K C) (hr : Room k X.A) (ho : PE X o ta) (ha : PA X (e :: es) t) (h1 : starEach (e :: es) X.env = (false, eval e X.env) :: starEach es X.env := by rfl) (h2 : (backTo pos (starEach es X.env)).any (·.1) = false := by rfl)
    (h3 : eval (.Call (.Attribute o m apos) (e :: es) [] pos) X.env = (do
      let ov ← eval o X.env
      standAt apos.atName
      let (f, first) ← holding [ov] (getMethod ov m pl)
      callWith pos f first (backTo pos (starEach (e :: es) X.env)) (backToKw pos (keywordEach [] X.env))) := by rfl) : PE X (.Call (.Attribute o m apos) (e :: es) [] pos) (tMeth C m sp [] E0 ta t) := by
  obtain ⟨f, fd, q1, q2, q3⟩ := M.ex
  exact pe_meth ho c q2 q1 hr q3 .nil pass0 ha h1 h2 h3
theorem pe_pr (R : PrP X.prog X.w X.K X.mg X.base C x g) (c : Cls X.K C) (hr : Room 2 X.A) (he : PE X e ta) (hab : attributeBase e x X.env (eval e X.env) = eval e X.env) : PE X (.Attribute e x pos) (tProp C (spGet C g) [] E0 ta) := by
  obtain ⟨q, f, fd, h1, h2, h3⟩ := R.ex
  exact pe_prop he c h1 h2 hr h3 .nil pass0 hab
end
theorem noF {x : Str} {m : Nat} {b : Bool} (h1 : (x == ("_modes" : Str)) = false := by decide +kernel) (h2 : (x == ("_watched" : Str)) = false := by decide +kernel) (h3 : (x == ("_ends" : Str)) = false := by decide +kernel) (h4 : (x == ("_size" : Str)) = false := by decide +kernel) (h5 : (x == ("_same" : Str)) = false := by decide +kernel) : (spF m b).lookup x = none :=
  (lkP h1).trans ((lkP h2).trans ((lkP h3).trans ((lkP h4).trans ((lkP h5).trans rfl))))
theorem ty_tup {K : PySem.W.Frag} {H : Hp} {a : Addr} {xs : List V} (h : SqT K H a xs) : TyX K H (.ref a) (.type "tuple") := by
  rcases h with (h | ⟨o, h⟩) | ⟨o, its, n, h, c, _⟩
  · exact .base (.tup h)
  · exact .fTuple h
  · exact .kTuple h c
section
variable {X : Cx} {K : PySem.W.Frag}
theorem ix_tupK (h : X.K = K) : IxR X (rIxT K) := by
  subst h
  exact ix_tup
theorem ix_listK (h : X.K = K) : IxR X (rIxL K) := by
  subst h
  exact ix_list
theorem pe_fldK {e : Expr} {te : TE} {f : Str} {pos : Pos} (h : X.K = K) (he : PE X e te) (hbase : attributeBase e f X.env (eval e X.env) = eval e X.env) : PE X (.Attribute e f pos) (tFld K te f) := by
  subst h
  exact pe_fld he hbase
def tTruth (K : PySem.W.Frag) (ta : TE) : TT := fun σ H Q => ta σ H fun x H' => ∃ k, TruV K x H' k ∧ Q k H'
theorem pt_truthK {a : Expr} {ta : TE} (h : X.K = K) (ha : PE X a ta) (he : ∀ whole, isTrue a X.env whole = (do let v ← whole; standAt a.pos; holding [v] (truthy v))) : PT X a (tTruth K ta) := by
  subst h
  exact pt_truth ha he
/-- not in, a list of data -/
def rNotL (K : PySem.W.Frag) : R2 := fun x y H Q => ∃ d ds, Dp K H x d ∧ Dp K H y (.list ds) ∧ SeqAt.shaped d = true ∧ SeqAt.shaped (.list ds) = true ∧ Q (.bl (!(ds.any fun z => PyData.eqv z d))) H
theorem op_notInLK (h : X.K = K) (hu : X.A.units + 65 < cLine) : OpR X (compareOp .NotIn) (rNotL K) := by
  subst h
  intro pins s σ H x y v u Q I rx ry h
  obtain ⟨d, ds, hd, he, sd, se, q⟩ := h
  obtain ⟨as, r1⟩ := Dp.reads I d x v hd rx
  obtain ⟨bs, r2⟩ := Dp.reads I (.list ds) y u he ry
  exact SeqAt.notIn_list_reads r2 r1 (SeqAt.canLay_of_shaped se) (SeqAt.canLay_of_shaped sd) (room_in_shaped sd hu) ⟨.bl _, H, I, rfl, q⟩
theorem op_eqDK (h : X.K = K) (hu : X.A.units + 64 < cLine) : OpR X (compareOp .Eq) (rEqD K) := by
  subst h
  exact op_eqD hu
theorem op_neDK (h : X.K = K) (hu : X.A.units + 64 < cLine) : OpR X (compareOp .NotEq) (rNeD K) := by
  subst h
  exact op_neD hu
end
/-- Space(..) with its keyword, or without -/
structure SpM (P : Program) (w : World) (K : PySem.W.Frag) (mg : Str → Option Value) (base : Heap) (C : Addr) : Prop where
  c : SpC K mg C
  ini : ∃ (f : Addr) (fd : FuncData), FnOk P w K mg base CX0 3 f fd ["self", "modes", "watched"] (spInit C) ∧ Mk K C f ∧ (∃ ds, Vals [V.bl false] ds ∧ Binds K fd ["self", "modes", "watched"] ds) ∧ KBn K fd ["self", "modes", "watched"] 2 ["watched"] (fun us ws => us ++ ws) (fun vs zs => vs ++ zs)
  eq : ∃ f fd, FnOk P w K mg base CX0 1 f fd ["self", "other"] (spEq C K) ∧ Binds K fd ["self", "other"] [] ∧ PySem.W.findIn K (.ref C) "__eq__" = some (some (.ref f)) ∧ PySem.W.isFn K (.ref f) = true
  ne : PySem.W.findIn K (.ref C) "__ne__" = some (some (.builtin "object.__ne__"))
  str : ∃ f fd, FnOk P w K mg base CX0 1 f fd ["self"] (spStr C) ∧ Binds K fd ["self"] [] ∧ PySem.W.findIn K (.ref C) "__str__" = some (some (.ref f)) ∧ PySem.W.isFn K (.ref f) = true
section
variable {X : Cx} {C : Addr} {e : Expr} {kws : List Keyword} {t tk : TA} {p pos : Pos}
theorem pe_mkS (G : SpM X.prog X.w X.K X.mg X.base C) (hr : Room 4 X.A) (hg : Gl X "Space") (ha : PA X [e] t) (he : starEach [e] X.env = (false, eval e X.env) :: starEach [] X.env := by rfl) (hpl : (backTo pos (starEach [] X.env)).any (·.1) = false := by rfl) :
    PE X (.Call (.Name "Space" p) [e] [] pos) (tMake C (spInit C) [.bl false] E0 t) := by
  obtain ⟨f, fd, h1, h2, ⟨ds, r, b⟩, _⟩ := G.ini
  exact pe_make h2 h1 hr hg G.c.gC b r pass0 ha (by decide) he hpl
theorem pe_mkW (G : SpM X.prog X.w X.K X.mg X.base C) (hr : Room 4 X.A) (hg : Gl X "Space") (ha : PA X [e] t) (hkw : PK X kws tk) (hall : (backToKw pos (keywordEach kws X.env)).all (·.1.isSome) = true := by rfl) (hks : (backToKw pos (keywordEach kws X.env)).filterMap (·.1) = ([("watched" : Str)] : List Str) := by rfl)
    (he : starEach [e] X.env = (false, eval e X.env) :: starEach [] X.env := by rfl) (hpl : ((backTo pos (starEach [e] X.env)).any (·.1) || (backToKw pos (keywordEach kws X.env)).any (·.1.isNone)) = false := by rfl) :
    PE X (.Call (.Name "Space" p) [e] kws pos) (tMakeK C 1 1 (spInit C) (fun vs zs => vs ++ zs) E0 t tk) := by
  obtain ⟨f, fd, h1, h2, _, kb⟩ := G.ini
  exact pe_makeK h2 h1 hr hg G.c.gC kb pass0 ha hkw hall hks (by decide) he hpl
theorem op_eqS (G : SpM X.prog X.w X.K X.mg X.base C) (hr : Room 1 X.A) : OpR X (compareOp .Eq) (rEqO X.K C (spEq C X.K) E0 false) := by
  obtain ⟨f, fd, h1, h2, h3, h4⟩ := G.eq
  exact op_eqOwn hr h1 h3 h4 h2 pass0
theorem op_neS (G : SpM X.prog X.w X.K X.mg X.base C) (hr : Room 2 X.A) : OpR X (compareOp .NotEq) (rEqO X.K C (spEq C X.K) E0 true) := by
  obtain ⟨f, fd, h1, h2, h3, h4⟩ := G.eq
  exact op_neOwn hr h1 h3 h4 h2 pass0 G.ne G.c.hm
theorem cr_strS (G : SpM X.prog X.w X.K X.mg X.base C) (hr : Room 3 X.A) : CallR X (.type "str") (fun xs H Q => ∃ a dx fs, xs = [.ref a] ∧ H a = some (.ins C dx fs) ∧ spStr C [.ref a] H (fun v H' => ∃ z, v = .str z ∧ Q (.str z) H') E0) := by
  obtain ⟨f, fd, h1, h2, h3, h4⟩ := G.str
  exact cr_strOwn hr h1 h3 h4 h2 pass0
end
end SQ
namespace SQ
open PySem PySem.Spec PyProof.Rows L2
theorem int_dec {n m : Nat} : decide (V.int (n : Int) = V.int (m : Int)) = decide (n = m) := decide_eq_decide.mpr ⟨fun e => Int.ofNat.inj (V.int.inj e), fun e => by rw [e]⟩
theorem sqT_put {K : PySem.W.Frag} {H : Hp} {D t : Addr} {o : HO} {xs : List V} (n : t ≠ D) (h : SqT K H t xs) : SqT K (upd H D o) t xs := by
  rcases h with (h | ⟨o', h⟩) | h
  · exact .inl (.inl (by rw [upd_ne n]; exact h))
  · exact .inl (.inr ⟨o', by rw [upd_ne n]; exact h⟩)
  · exact .inr h
theorem al_prs {α : Type} {K : PySem.W.Frag} {H : Hp} {f : α → Pr} {ms : List α} {ys : List V} (a : Al (fun m y => ∃ t, y = .ref t ∧ SqT K H t (prV (f m))) ms ys) : ∃ ks : List (Addr × Pr), ys = refs ks ∧ Prs K H ks ∧ prsOf ks = ms.map f := by
  induction a with
  | nil => exact ⟨[], rfl, Prs.nil, rfl⟩
  | @cons m y ms ys h _ ih =>
    obtain ⟨t, rfl, h⟩ := h
    obtain ⟨ks, rfl, pr, e⟩ := ih
    refine ⟨(t, f m) :: ks, rfl, fun q hq => ?_, ?_⟩
    · rcases List.mem_cons.mp hq with rfl | hq
      · exact h
      · exact pr q hq
    · show f m :: prsOf ks = _
      rw [e]
      rfl
theorem u65 {k : Nat} {A : Around} (r : L2.Room k A) : A.units + 65 < cLine := by
  have := r.un
  omega
/-! ### data of pairs -/
def prD (p : Pr) : PyData := .tuple [.int (p.1 : Int), .int (p.2 : Int)]
def prsD (ps : List Pr) : PyData := .list (ps.map prD)
theorem dp_pr {K : PySem.W.Frag} {H : Hp} {t : Addr} {p : Pr} (h : SqT K H t (prV p)) : Dp K H (.ref t) (prD p) := .tup h (.cons (.int _) (.cons (.int _) .nil))
theorem dps_pr {K : PySem.W.Frag} {H : Hp} : ∀ {ks : List (Addr × Pr)}, Prs K H ks → DpAll K H (refs ks) ((prsOf ks).map prD)
  | [], _ => .nil
  | q :: ks, h => .cons (dp_pr (h q (.head _))) (dps_pr fun z hz => h z (.tail _ hz))
theorem eqv_pr (p q : Pr) : PyData.eqv (prD p) (prD q) = decide (p = q) := by
  show (((p.1 : Int) == (q.1 : Int)) && (((p.2 : Int) == (q.2 : Int)) && true)) = _
  rw [Bool.and_true]
  by_cases e : p = q
  · subst e
    rw [decide_eq_true rfl]
    simp
  · rw [decide_eq_false e]
    refine Bool.eq_false_iff.mpr fun z => e ?_
    rw [Bool.and_eq_true, beq_iff_eq, beq_iff_eq] at z
    exact Prod.ext (Int.ofNat.inj z.1) (Int.ofNat.inj z.2)
theorem any_pr (ps : List Pr) (p : Pr) : ((ps.map prD).any fun z => PyData.eqv z (prD p)) = decide (p ∈ ps) := by
  induction ps with
  | nil => rfl
  | cons x r ih =>
    rw [List.map_cons, List.any_cons, ih, eqv_pr]
    simp only [List.mem_cons, Bool.decide_or]
    congr 1
    exact decide_eq_decide.mpr eq_comm
theorem eqv_prs : ∀ (ps qs : List Pr), PyData.eqvAll (ps.map prD) (qs.map prD) = decide (ps = qs)
  | [], [] => rfl
  | [], _ :: _ => rfl
  | _ :: _, [] => rfl
  | p :: ps, q :: qs => by
    show (PyData.eqv (prD p) (prD q) && PyData.eqvAll (ps.map prD) (qs.map prD)) = _
    rw [eqv_prs ps qs, eqv_pr, ← Bool.decide_and]
    exact decide_eq_decide.mpr (by rw [List.cons.injEq])
theorem seq_at {k n : Nat} (h : k < n) : seqIndex? (k : Int) n = some k := by
  unfold seqIndex?
  have h1 : ¬ ((k : Int) < 0) := by omega
  rw [if_neg h1]
  have h2 : (decide ((0 : Int) ≤ (k : Int)) && decide ((k : Int) < (n : Int))) = true := by
    rw [decide_eq_true (by omega : (0 : Int) ≤ (k : Int)), decide_eq_true (by omega : (k : Int) < (n : Int))]
    rfl
  simp only [h2, if_true]
  rfl
theorem erase_perm {α : Type} : ∀ {l : List α} {k : Nat} (h : k < l.length), (l[k] :: l.eraseIdx k).Perm l
  | x :: r, 0, _ => .refl _
  | x :: r, k + 1, h => by
    show (r[k]'(by simpa using h) :: x :: r.eraseIdx k).Perm (x :: r)
    exact (List.Perm.swap _ _ _).trans ((erase_perm (l := r) (k := k) (by simpa using h)).cons x)
def reprB (b : Bool) : Str := if b then "True" else "False"
theorem call_repr_bl {X : Cx} : CallR X (.builtin "repr") (fun xs H Q => ∃ b, xs = [.bl b] ∧ Q (.str (reprB b)) H) := by
  intro pins s σ H xs us Q I r h
  obtain ⟨b, rfl, q⟩ := h
  obtain ⟨u, rfl, t⟩ := vals1 r
  cases t
  exact PySem.P.repr_of_bool ⟨.str _, H, I.tok _, ⟨_, rfl⟩, q⟩
theorem small1000 {n : Nat} (h : n < 1000) : n < sizeLine := Nat.lt_trans h (by decide)
theorem len_app (a b : Str) : (a ++ b).length = a.length + b.length := by
  show (a.cps ++ b.cps).size = a.cps.size + b.cps.size
  exact Array.size_append ..
theorem small_log (n : Nat) (h : n < 10000) : ((n : Int)).natAbs.log2 < 1920 := by
  have e : ((n : Int)).natAbs = n := rfl
  rw [e]
  by_cases z : n = 0
  · subst z
    decide
  · exact Nat.lt_trans ((Nat.log2_lt z).mpr (show n < 2 ^ 14 by omega)) (by decide)
end SQ
namespace SQ
open PySem PySem.Spec PyProof.Rows L2
theorem lays_prs : ∀ ps : List Pr, PyData.canLayAll0 (ps.map prD) = true
  | [] => rfl
  | p :: r => by
    show (PyData.canLay0 (prD p) && PyData.canLayAll0 (r.map prD)) = true
    rw [lays_prs r]
    rfl
theorem deep_prs : ∀ ps : List Pr, PyData.depthAll (ps.map prD) ≤ 1
  | [] => Nat.zero_le _
  | p :: r => by
    show max (max 0 (max 0 0) + 1) (PyData.depthAll (r.map prD)) ≤ 1
    have := deep_prs r
    omega
theorem shaped_prs {ps : List Pr} : SeqAt.shaped (prsD ps) = true := by
  unfold SeqAt.shaped
  rw [show PyData.canLay0 (prsD ps) = true from lays_prs ps, decide_eq_true (show PyData.depth (prsD ps) ≤ 64 by
    show PyData.depthAll (ps.map prD) + 1 ≤ 64
    have := deep_prs ps
    omega)]
  rfl
theorem shaped_prsT {ps : List Pr} : SeqAt.shaped (.tuple (ps.map prD)) = true := by
  unfold SeqAt.shaped
  rw [show PyData.canLay0 (.tuple (ps.map prD)) = true from lays_prs ps, decide_eq_true (show PyData.depth (.tuple (ps.map prD)) ≤ 64 by
    show PyData.depthAll (ps.map prD) + 1 ≤ 64
    have := deep_prs ps
    omega)]
  rfl
/-- a list is changed: tuples stay -/
theorem sqT_set {K : PySem.W.Frag} {H : Hp} {D t : Addr} {o : HO} {xs ys : List V} (e : H D = some (.lst ys)) (h : SqT K H t xs) : SqT K (upd H D o) t xs := by
  have n : ∀ {u : HO}, H t = some u → (∀ zs, u ≠ .lst zs) → t ≠ D := fun h1 h2 z => by
    rw [z, e] at h1
    exact h2 _ (Option.some.inj h1).symm
  rcases h with (h | ⟨o', h⟩) | h
  · exact .inl (.inl (by rw [upd_ne (n h (by intro zs q; cases q))]; exact h))
  · exact .inl (.inr ⟨o', by rw [upd_ne (n h (by intro zs q; cases q))]; exact h⟩)
  · exact .inr h
theorem Prs.set {K : PySem.W.Frag} {H : Hp} {D : Addr} {o : HO} {ys : List V} {ks : List (Addr × Pr)} (g : Prs K H ks) (e : H D = some (.lst ys)) : Prs K (upd H D o) ks := fun q hq => sqT_set e (g q hq)
theorem Same.none {H H' : Hp} {l : Addr} (s : Same H H') (h : H' l = none) : H l = none := by
  cases e : H l with
  | none => rfl
  | some o =>
    rw [s _ _ e] at h
    cases h
end SQ
namespace SQ
open PySem PySem.Spec PyProof.Rows L2
def pows : List V := [.int 1, .int 2, .int 4, .int 8, .int 16, .int 32, .int 64, .int 128, .int 256, .int 512, .int 1024, .int 2048]
theorem pows_at : ∀ k : Nat, k < 12 → pows[k]? = some (V.int ((2 ^ k : Nat) : Int)) := by decide +kernel
def ofPr (q : Addr × Pr) : Addr × List Int := (q.1, [(q.2.1 : Int), (q.2.2 : Int)])
theorem ofPr_back : ∀ {L : List (Addr × List Int)} {ks : List (Addr × Pr)}, (∀ p ∈ L, p ∈ ks.map ofPr) → ∃ M : List (Addr × Pr), L = M.map ofPr ∧ ∀ q ∈ M, q ∈ ks
  | [], _, _ => ⟨[], rfl, fun q h => nomatch h⟩
  | p :: L, ks, h => by
    obtain ⟨x, hx, rfl⟩ := List.mem_map.mp (h p (.head _))
    obtain ⟨M, e, hm⟩ := ofPr_back (L := L) (ks := ks) fun q hq => h q (.tail _ hq)
    refine ⟨x :: M, by rw [e]; rfl, fun q hq => ?_⟩
    rcases List.mem_cons.mp hq with rfl | hq
    · exact hx
    · exact hm q hq
theorem ofPr_snd (q q' : Addr × Pr) (h : (ofPr q).2 = (ofPr q').2) : q.2 = q'.2 := by
  injection h with h1 h2
  injection h2 with h2 _
  exact Prod.ext (Int.ofNat.inj h1) (Int.ofNat.inj h2)
theorem ofPr_nodup {M : List (Addr × Pr)} (h : ((M.map ofPr).map (·.2)).Nodup) : (prsOf M).Nodup := by
  rw [List.map_map] at h
  rw [List.nodup_iff_pairwise_ne, List.pairwise_map] at h ⊢
  exact List.Pairwise.imp (fun n e => n (by
    show [((_ : Pr).1 : Int), _] = [((_ : Pr).1 : Int), _]
    rw [e])) h
end SQ
namespace SQ
open PySem PySem.Spec PyProof.Rows L2
theorem sz_len {m : Nat} {b : Bool} (h : 1 ≤ m ∧ m ≤ 3) : (Str.ofString (toString ((2 ^ (m * en m b) : Nat) : Int))).length ≤ 4 := by
  have three : m = 1 ∨ m = 2 ∨ m = 3 := by omega
  rcases three with rfl | rfl | rfl <;> cases b <;> decide +kernel
theorem m_len {m : Nat} (h : 1 ≤ m ∧ m ≤ 3) : (Str.ofString (toString (m : Int))).length ≤ 1 := by
  have three : m = 1 ∨ m = 2 ∨ m = 3 := by omega
  rcases three with rfl | rfl | rfl <;> decide +kernel
theorem ifC {b : Bool} {x y : Str} {σ : L2.St} {H : Hp} {Q : V → Hp → Prop} (h : Q (.str (if b = true then x else y)) H) : if b = true then tC (.str x) σ H Q else tC (.str y) σ H Q := by
  cases b
  · exact iteF h
  · exact iteT h
theorem mk_same {C x dx : Addr} {H H' : Hp} (nx : H x = none) (ndx : H dx = none) (k : ∀ c o, c ≠ x → upd (upd H dx (.own x)) x (.ins C dx []) c = some o → H' c = some o) : Same H H' := fun c o e => k c o (ne_of_none e nx) (by rw [upd_ne (ne_of_none e nx), upd_ne (ne_of_none e ndx)]; exact e)
end SQ
namespace SQ
open PySem PySem.Spec PyProof.Rows L2
theorem kit_self {K : PySem.W.Frag} {C : Addr} : PySem.W.kitOne K (.ref C) (.ref C) = some true := by
  unfold PySem.W.kitOne
  rw [if_pos (by simp)]
theorem kit_own {K : PySem.W.Frag} {C : Addr} {T : String} (h1 : PySem.W.isClsIn K C = true) (h2 : PySem.W.typeIn K (.ref C) = some (.type "type")) (h3 : PySem.W.subIn K (.type T) (.ref C) = some false) : PySem.W.kitOne K (.type T) (.ref C) = some false := by
  unfold PySem.W.kitOne
  rw [if_neg (by simp)]
  have e2 : ((PySem.W.clsIn K C).isSome && PySem.W.typeIn K (.ref C) == some (.type "type")) = true := by
    have h1' : (PySem.W.clsIn K C).isSome = true := h1
    rw [h1', h2] <;> rfl
  show (if ((PySem.W.clsIn K C).isSome && PySem.W.typeIn K (.ref C) == some (.type "type")) = true then PySem.W.subIn K (.type T) (.ref C) else none) = some false
  rw [if_pos e2]
  exact h3
end SQ

set_option Elab.async false
set_option linter.all false
set_option maxRecDepth 100000
set_option maxHeartbeats 4000000
/-! one relation after another one -/
namespace SQ
open PySem PySem.Spec PyProof.Rows L2
def cbit (m e r s a b : Nat) : Bool := (decide (m ≤ b) && r.testBit (a * e + b)) || (List.range m).any fun c => r.testBit (a * e + c) && s.testBit (c * e + b)
def compN (m e r s : Nat) : Nat := orP ((List.range (m * e)).filter fun j => cbit m e r s (j / e) (j % e))
theorem comp_bit (m e r s j : Nat) : (compN m e r s).testBit j = (decide (j < m * e) && cbit m e r s (j / e) (j % e)) := by
  unfold compN
  rw [orP_bit]
  by_cases h : j < m * e
  · rw [decide_eq_true h, Bool.true_and]
    cases hc : cbit m e r s (j / e) (j % e) with
    | true => exact decide_eq_true (List.mem_filter.mpr ⟨List.mem_range.mpr h, hc⟩)
    | false => exact decide_eq_false fun z => by rw [(List.mem_filter.mp z).2] at hc; cases hc
  · rw [decide_eq_false h, Bool.false_and]
    exact decide_eq_false fun z => h (List.mem_range.mp (List.mem_filter.mp z).1)
theorem comp_lt (m e r s : Nat) : compN m e r s < 2 ^ (m * e) := Nat.lt_pow_two_of_testBit _ fun j hj => by
  rw [comp_bit, decide_eq_false (by omega), Bool.false_and]
theorem div_at {e a b : Nat} (h : b < e) : (a * e + b) / e = a := cd_fst (p := (a, b)) h
theorem mod_at {e a b : Nat} (h : b < e) : (a * e + b) % e = b := cd_snd (p := (a, b)) h
theorem at_lt {m e a b : Nat} (ha : a < m) (h : b < e) : a * e + b < m * e := by
  have := Nat.mul_le_mul_right e (show a + 1 ≤ m from ha)
  rw [Nat.succ_mul] at this
  omega
theorem comp_at {m e r s a b : Nat} (ha : a < m) (hb : b < e) : (compN m e r s).testBit (a * e + b) = cbit m e r s a b := by
  rw [comp_bit, div_at hb, mod_at hb, decide_eq_true (at_lt ha hb), Bool.true_and]
/-- relations are told by their pairs -/
theorem ext_pr {m e r s : Nat} (he : 0 < e) (hr : r < 2 ^ (m * e)) (hs : s < 2 ^ (m * e)) (h : ∀ a b, a < m → b < e → r.testBit (a * e + b) = s.testBit (a * e + b)) : r = s := Nat.eq_of_testBit_eq fun j => by
  by_cases hj : j < m * e
  · have h1 : j / e < m := (Nat.div_lt_iff_lt_mul he).mpr hj
    have h2 := h (j / e) (j % e) h1 (Nat.mod_lt _ he)
    rw [show j / e * e + j % e = j from cd_div j] at h2
    exact h2
  · have up : ∀ x, x < 2 ^ (m * e) → x.testBit j = false := fun x hx => Nat.testBit_lt_two_pow (Nat.lt_of_lt_of_le hx (Nat.pow_le_pow_right (by decide) (by omega)))
    rw [up r hr, up s hs]
theorem cbit_iff {m e r s a b : Nat} : cbit m e r s a b = true ↔ (m ≤ b ∧ r.testBit (a * e + b) = true) ∨ ∃ c, c < m ∧ r.testBit (a * e + c) = true ∧ s.testBit (c * e + b) = true := by
  unfold cbit
  rw [Bool.or_eq_true, Bool.and_eq_true, decide_eq_true_eq, List.any_eq_true]
  constructor
  · rintro (h | ⟨c, h1, h2⟩)
    · exact .inl h
    · rw [Bool.and_eq_true] at h2
      exact .inr ⟨c, List.mem_range.mp h1, h2⟩
  · rintro (h | ⟨c, h1, h2⟩)
    · exact .inl h
    · exact .inr ⟨c, List.mem_range.mpr h1, by rw [Bool.and_eq_true]; exact h2⟩
theorem bool_ext {x y : Bool} (h : x = true ↔ y = true) : x = y := by
  cases x <;> cases y <;> simp_all
theorem comp_assoc {m e r s t : Nat} (hme : m ≤ e) (he : 0 < e) : compN m e (compN m e r s) t = compN m e r (compN m e s t) := by
  refine ext_pr he (comp_lt ..) (comp_lt ..) fun a b ha hb => ?_
  rw [comp_at ha hb, comp_at ha hb]
  refine bool_ext ?_
  rw [cbit_iff, cbit_iff]
  constructor
  · rintro (⟨h1, h2⟩ | ⟨c, hc, h1, h2⟩)
    · rw [comp_at ha hb, cbit_iff] at h2
      rcases h2 with ⟨_, h2⟩ | ⟨c, hc, h2, h3⟩
      · exact .inl ⟨h1, h2⟩
      · refine .inr ⟨c, hc, h2, ?_⟩
        rw [comp_at hc hb, cbit_iff]
        exact .inl ⟨h1, h3⟩
    · rw [comp_at ha (by omega), cbit_iff] at h1
      rcases h1 with ⟨h1, _⟩ | ⟨d, hd, h3, h4⟩
      · omega
      · refine .inr ⟨d, hd, h3, ?_⟩
        rw [comp_at hd hb, cbit_iff]
        exact .inr ⟨c, hc, h4, h2⟩
  · rintro (⟨h1, h2⟩ | ⟨c, hc, h1, h2⟩)
    · refine .inl ⟨h1, ?_⟩
      rw [comp_at ha hb, cbit_iff]
      exact .inl ⟨h1, h2⟩
    · rw [comp_at hc hb, cbit_iff] at h2
      rcases h2 with ⟨h2, h3⟩ | ⟨d, hd, h3, h4⟩
      · refine .inl ⟨h2, ?_⟩
        rw [comp_at ha hb, cbit_iff]
        exact .inr ⟨c, hc, h1, h3⟩
      · refine .inr ⟨d, hd, ?_, h4⟩
        rw [comp_at ha (by omega), cbit_iff]
        exact .inr ⟨c, hc, h1, h3⟩
theorem same_bit {m e a b : Nat} (hme : m ≤ e) (ha : a < m) (hb : b < e) : (sameN m e).testBit (a * e + b) = decide (a = b) := by
  unfold sameN
  rw [orP_bit]
  refine decide_eq_decide.mpr ⟨fun h => ?_, fun h => ?_⟩
  · obtain ⟨i, hi, z⟩ := List.mem_map.mp h
    have hi := List.mem_range.mp hi
    have h1 := congrArg (· / e) z
    have h2 := congrArg (· % e) z
    simp only [div_at hb, mod_at hb, div_at (show i < e by omega), mod_at (show i < e by omega)] at h1 h2
    omega
  · subst h
    exact List.mem_map.mpr ⟨a, List.mem_range.mpr ha, rfl⟩
theorem same_lt {m e : Nat} (hme : m ≤ e) : sameN m e < 2 ^ (m * e) := Nat.lt_pow_two_of_testBit _ fun j hj => by
  unfold sameN
  rw [orP_bit]
  refine decide_eq_false fun h => ?_
  obtain ⟨i, hi, z⟩ := List.mem_map.mp h
  have hi := List.mem_range.mp hi
  have := at_lt (e := e) hi (show i < e by omega)
  omega
theorem comp_same {m e r : Nat} (hme : m ≤ e) (he : 0 < e) (hr : r < 2 ^ (m * e)) : compN m e r (sameN m e) = r := by
  refine ext_pr he (comp_lt ..) hr fun a b ha hb => ?_
  rw [comp_at ha hb]
  refine bool_ext ?_
  rw [cbit_iff]
  constructor
  · rintro (⟨_, h2⟩ | ⟨c, hc, h1, h2⟩)
    · exact h2
    · rw [same_bit hme hc hb, decide_eq_true_eq] at h2
      subst h2
      exact h1
  · intro h
    by_cases hm : m ≤ b
    · exact .inl ⟨hm, h⟩
    · exact .inr ⟨b, by omega, h, by rw [same_bit hme (by omega) hb]; exact decide_eq_true rfl⟩
theorem same_comp {m e r : Nat} (hme : m ≤ e) (he : 0 < e) (hr : r < 2 ^ (m * e)) : compN m e (sameN m e) r = r := by
  refine ext_pr he (comp_lt ..) hr fun a b ha hb => ?_
  rw [comp_at ha hb]
  refine bool_ext ?_
  rw [cbit_iff]
  constructor
  · rintro (⟨h1, h2⟩ | ⟨c, hc, h1, h2⟩)
    · rw [same_bit hme ha hb, decide_eq_true_eq] at h2
      omega
    · rw [same_bit hme ha (by omega), decide_eq_true_eq] at h1
      subst h1
      exact h2
  · intro h
    exact .inr ⟨a, ha, by rw [same_bit hme ha (by omega)]; exact decide_eq_true rfl, h⟩
theorem comp_or {m e r s t : Nat} (he : 0 < e) : compN m e r (s ||| t) = compN m e r s ||| compN m e r t := by
  refine ext_pr he (comp_lt ..) (Nat.or_lt_two_pow (comp_lt ..) (comp_lt ..)) fun a b ha hb => ?_
  rw [Nat.testBit_or, comp_at ha hb, comp_at ha hb, comp_at ha hb]
  refine bool_ext ?_
  rw [Bool.or_eq_true, cbit_iff, cbit_iff, cbit_iff]
  constructor
  · rintro (h | ⟨c, hc, h1, h2⟩)
    · exact .inl (.inl h)
    · rw [Nat.testBit_or, Bool.or_eq_true] at h2
      rcases h2 with h2 | h2
      · exact .inl (.inr ⟨c, hc, h1, h2⟩)
      · exact .inr (.inr ⟨c, hc, h1, h2⟩)
  · rintro ((h | ⟨c, hc, h1, h2⟩) | (h | ⟨c, hc, h1, h2⟩))
    · exact .inl h
    · exact .inr ⟨c, hc, h1, by rw [Nat.testBit_or, h2]; rfl⟩
    · exact .inl h
    · exact .inr ⟨c, hc, h1, by rw [Nat.testBit_or, h2, Bool.or_true]⟩
theorem or_comp {m e r s t : Nat} (he : 0 < e) : compN m e (r ||| s) t = compN m e r t ||| compN m e s t := by
  refine ext_pr he (comp_lt ..) (Nat.or_lt_two_pow (comp_lt ..) (comp_lt ..)) fun a b ha hb => ?_
  rw [Nat.testBit_or, comp_at ha hb, comp_at ha hb, comp_at ha hb]
  refine bool_ext ?_
  rw [Bool.or_eq_true, cbit_iff, cbit_iff, cbit_iff]
  constructor
  · rintro (⟨h1, h⟩ | ⟨c, hc, h1, h2⟩)
    · rw [Nat.testBit_or, Bool.or_eq_true] at h
      rcases h with h | h
      · exact .inl (.inl ⟨h1, h⟩)
      · exact .inr (.inl ⟨h1, h⟩)
    · rw [Nat.testBit_or, Bool.or_eq_true] at h1
      rcases h1 with h1 | h1
      · exact .inl (.inr ⟨c, hc, h1, h2⟩)
      · exact .inr (.inr ⟨c, hc, h1, h2⟩)
  · rintro ((⟨h1, h⟩ | ⟨c, hc, h1, h2⟩) | (⟨h1, h⟩ | ⟨c, hc, h1, h2⟩))
    · exact .inl ⟨h1, by rw [Nat.testBit_or, h]; rfl⟩
    · exact .inr ⟨c, hc, by rw [Nat.testBit_or, h1]; rfl, h2⟩
    · exact .inl ⟨h1, by rw [Nat.testBit_or, h, Bool.or_true]⟩
    · exact .inr ⟨c, hc, by rw [Nat.testBit_or, h1, Bool.or_true], h2⟩
/-- the pairs of the watched end -/
def doneL (m : Nat) (ps : List Pr) : List Pr := ps.filter fun p => decide (p.2 = m)
def thenL (m : Nat) (ps qs : List Pr) : List Pr := doneL m ps ++ ps.flatMap fun p => (qs.filter fun q => decide (q.1 = p.2) && decide (p.2 < m)).map fun q => (p.1, q.2)
theorem prs_at {m e r a b : Nat} (hb : b < e) (hr : r < 2 ^ (m * e)) (hme : m * e ≤ 12) : (a, b) ∈ prs e r ↔ r.testBit (a * e + b) = true := by
  rw [mem_prs (by omega)]
  constructor
  · exact fun h => h.2.2
  · intro h
    refine ⟨hb, ?_, h⟩
    refine Nat.lt_of_not_le fun z => ?_
    have h' : r.testBit (cd e (a, b)) = true := h
    rw [Nat.testBit_lt_two_pow (Nat.lt_of_lt_of_le hr (Nat.pow_le_pow_right (by decide) (Nat.le_trans hme z)))] at h'
    cases h'
theorem then_bits {m e r s : Nat} (he : 0 < e) (hm : m ≤ e) (hem : e ≤ m + 1) (hme : m * e ≤ 12) (hr : r < 2 ^ (m * e)) (hs : s < 2 ^ (m * e)) : bitsN e (thenL m (prs e r) (prs e s)) = compN m e r s := by
  have mem : ∀ x : Pr, x ∈ thenL m (prs e r) (prs e s) ↔ (x.1 < m ∧ x.2 < e ∧ cbit m e r s x.1 x.2 = true) := fun x => by
    obtain ⟨a, b⟩ := x
    unfold thenL doneL
    rw [List.mem_append, List.mem_filter, List.mem_flatMap]
    constructor
    · rintro (⟨h1, h2⟩ | ⟨p, hp, h2⟩)
      · have h2 : b = m := of_decide_eq_true h2
        have h3 := prs_small he hr h1
        rw [prs_at h3.2 hr hme] at h1
        exact ⟨h3.1, h3.2, cbit_iff.mpr (.inl ⟨by omega, h1⟩)⟩
      · obtain ⟨q, hq, e2⟩ := List.mem_map.mp h2
        obtain ⟨hq1, hq2⟩ := List.mem_filter.mp hq
        rw [Bool.and_eq_true, decide_eq_true_eq, decide_eq_true_eq] at hq2
        have h3 := prs_small he hr hp
        have h4 := prs_small he hs hq1
        injection e2 with e3 e4
        subst e3 e4
        refine ⟨h3.1, h4.2, cbit_iff.mpr (.inr ⟨p.2, hq2.2, ?_, ?_⟩)⟩
        · exact (prs_at h3.2 hr hme).mp hp
        · rw [← hq2.1]
          exact (prs_at h4.2 hs hme).mp hq1
    · rintro ⟨h1, h2, h3⟩
      rcases cbit_iff.mp h3 with ⟨h4, h5⟩ | ⟨c, hc, h4, h5⟩
      · refine .inl ⟨(prs_at h2 hr hme).mpr h5, decide_eq_true (show b = m by have h2' : b < e := h2; have h4' : m ≤ b := h4; omega)⟩
      · have hce : c < e := by omega
        exact .inr ⟨(a, c), (prs_at hce hr hme).mpr h4, List.mem_map.mpr ⟨(c, b), List.mem_filter.mpr ⟨(prs_at h2 hs hme).mpr h5, by rw [decide_eq_true rfl, decide_eq_true hc]; rfl⟩, rfl⟩⟩
  refine Nat.eq_of_testBit_eq fun j => ?_
  unfold bitsN
  rw [orP_bit, comp_bit]
  refine bool_ext ?_
  rw [decide_eq_true_eq, Bool.and_eq_true, decide_eq_true_eq]
  constructor
  · intro h
    obtain ⟨x, hx, rfl⟩ := List.mem_map.mp h
    obtain ⟨h1, h2, h3⟩ := (mem x).mp hx
    rw [cd_fst h2, cd_snd h2]
    exact ⟨at_lt h1 h2, h3⟩
  · rintro ⟨h1, h2⟩
    exact List.mem_map.mpr ⟨(j / e, j % e), (mem _).mpr ⟨(Nat.div_lt_iff_lt_mul he).mpr h1, Nat.mod_lt _ he, h2⟩, cd_div j⟩
end SQ
namespace SQ
open PySem PySem.Spec PyProof.Rows L2
def rowN (r a e : Nat) : Nat := r / 2 ^ (a * e) % 2 ^ e
theorem row_bit (r a e b : Nat) : (rowN r a e).testBit b = (decide (b < e) && r.testBit (a * e + b)) := by
  unfold rowN
  rw [Nat.testBit_mod_two_pow, Nat.testBit_div_two_pow]
  congr 2
  omega
theorem row_lt (r a e : Nat) : rowN r a e < 2 ^ e := Nat.mod_lt _ (Nat.two_pow_pos _)
theorem row_and (r a e : Nat) : (r / 2 ^ (a * e) &&& (1 * 2 ^ e - 1)) = rowN r a e := by
  rw [Nat.one_mul, Nat.and_two_pow_sub_one_eq_mod]
  rfl
def spRow : Sp := fun vs H Q _ => ∃ r a e : Nat, vs = [.int (r : Int), .int (a : Int), .int (e : Int)] ∧ a ≤ 3 ∧ e ≤ 4 ∧ Q (.int (rowN r a e : Nat)) H
def spFol : Sp := fun vs H Q _ => ∃ r s m e : Nat, vs = [.int (r : Int), .int (s : Int), .int (m : Int), .int (e : Int)] ∧ m ≤ 3 ∧ m ≤ e ∧ e ≤ 4 ∧ Q (.int (compN m e r s : Nat)) H
def gFol : Nat → Nat → Nat → Nat → V := fun m e r s => .int (compN m e r s : Nat)
def spThen (K : PySem.W.Frag) : Sp := fun vs H Q _ => ∃ (m e r s : Nat) (l1 l2 : Addr) (ks ls : List (Addr × Pr)), vs = [.int (m : Int), .int (e : Int), .ref l1, .ref l2] ∧ 1 ≤ e ∧ e ≤ 4 ∧ m * e ≤ 12 ∧ r < 2 ^ (m * e) ∧ s < 2 ^ (m * e) ∧ SqL K H l1 (refs ks) ∧ SqL K H l2 (refs ls) ∧ Prs K H ks ∧ Prs K H ls ∧ prsOf ks = prs e r ∧ prsOf ls = prs e s ∧
  ∀ H' l ns, Same H H' → H l = none → H' l = some (.lst (refs ns)) → Prs K H' ns → ns.length < 64 → (∀ x, x ∈ prsOf ns ↔ x ∈ thenL m (prs e r) (prs e s)) → Q (.ref l) H'
theorem in_len {m e r s : Nat} (he : 0 < e) (hs : s < 2 ^ (m * e)) (w : Nat) : ((prs e s).filter fun q => decide (q.1 = w)).length ≤ e := by
  have nd : (((prs e s).filter fun q => decide (q.1 = w)).map (·.2)).Nodup := nodup_on (fun a ha b hb z => Prod.ext (by
    have h1 := of_decide_eq_true (List.mem_filter.mp ha).2
    have h2 := of_decide_eq_true (List.mem_filter.mp hb).2
    rw [h1, h2]) z) (List.Pairwise.filter _ (prs_nodup e s))
  have := nodup_few _ (List.range e) nd fun x hx => by
    obtain ⟨q, hq, rfl⟩ := List.mem_map.mp hx
    exact List.mem_range.mpr (prs_small he hs (List.mem_filter.mp hq).1).2
  rw [List.length_map, List.length_range] at this
  exact this
end SQ
namespace SQ
open PySem PySem.Spec PyProof.Rows L2
def cpart (m e r s a c b : Nat) : Bool := (decide (m ≤ b) && r.testBit (a * e + b)) || (List.range c).any fun c => r.testBit (a * e + c) && s.testBit (c * e + b)
theorem mul_bit (x k b : Nat) : (x * 2 ^ k).testBit b = (decide (k ≤ b) && x.testBit (b - k)) := by
  rw [Nat.mul_comm, Nat.testBit_two_pow_mul]
theorem part0 (m e r s a b : Nat) : (rowN r a e / 2 ^ m * 2 ^ m).testBit b = (decide (b < e) && cpart m e r s a 0 b) := by
  rw [mul_bit, Nat.testBit_div_two_pow]
  unfold cpart
  rw [List.range_zero, List.any_nil, Bool.or_false]
  by_cases h : m ≤ b
  · rw [decide_eq_true h, Bool.true_and, Bool.true_and, show b - m + m = b by omega, row_bit]
  · rw [decide_eq_false h, Bool.false_and, Bool.false_and, Bool.and_false]
theorem part_s (m e r s a c b : Nat) : cpart m e r s a (c + 1) b = (cpart m e r s a c b || (r.testBit (a * e + c) && s.testBit (c * e + b))) := by
  unfold cpart
  rw [List.range_succ, List.any_append, List.any_cons, List.any_nil, Bool.or_false, Bool.or_assoc]
theorem rel_s {m e r s i rel fnd : Nat} (he : 0 < e) (hr : ∀ j, rel.testBit j = (decide (j < i * e) && cbit m e r s (j / e) (j % e))) (hf : ∀ b, fnd.testBit b = (decide (b < e) && cpart m e r s i m b)) (j : Nat) :
    (rel ||| fnd * 2 ^ (i * e)).testBit j = (decide (j < (i + 1) * e) && cbit m e r s (j / e) (j % e)) := by
  rw [Nat.testBit_or, mul_bit, hr, hf]
  have es : (i + 1) * e = i * e + e := Nat.succ_mul i e
  by_cases h : j < i * e
  · rw [decide_eq_true h, decide_eq_false (show ¬ i * e ≤ j by omega), Bool.false_and, Bool.or_false, decide_eq_true (show j < (i + 1) * e by omega)]
  · rw [decide_eq_false h, Bool.false_and, Bool.false_or, decide_eq_true (show i * e ≤ j by omega), Bool.true_and]
    by_cases h2 : j < (i + 1) * e
    · obtain ⟨b, rfl⟩ : ∃ b, j = i * e + b := ⟨j - i * e, by omega⟩
      have hb : b < e := by omega
      rw [decide_eq_true h2, Bool.true_and, div_at hb, mod_at hb, show i * e + b - i * e = b by omega, decide_eq_true hb, Bool.true_and]
      rfl
    · rw [decide_eq_false h2, Bool.false_and, decide_eq_false (show ¬ j - i * e < e by omega), Bool.false_and]
theorem then_small {m e r s : Nat} (he : 0 < e) (hr : r < 2 ^ (m * e)) (hs : s < 2 ^ (m * e)) {x : Pr} (h : x ∈ thenL m (prs e r) (prs e s)) : x.1 < m ∧ x.2 < e := by
  unfold thenL doneL at h
  rw [List.mem_append, List.mem_filter, List.mem_flatMap] at h
  rcases h with ⟨h, _⟩ | ⟨p, hp, h⟩
  · exact prs_small he hr h
  · obtain ⟨q, hq, rfl⟩ := List.mem_map.mp h
    exact ⟨(prs_small he hr hp).1, (prs_small he hs (List.mem_filter.mp hq).1).2⟩
theorem filter_sub {α : Type} {p q : α → Bool} (h : ∀ x, p x = true → q x = true) : ∀ {l : List α}, (l.filter p).Sublist (l.filter q)
  | [] => .slnil
  | x :: r => by
    by_cases e : p x = true
    · rw [List.filter_cons_of_pos e, List.filter_cons_of_pos (h x e)]
      exact .cons_cons _ (filter_sub h)
    · rw [List.filter_cons_of_neg e]
      by_cases e2 : q x = true
      · rw [List.filter_cons_of_pos e2]
        exact .cons _ (filter_sub h)
      · rw [List.filter_cons_of_neg e2]
        exact filter_sub h
end SQ
namespace SQ
open PySem PySem.Spec PyProof.Rows L2
def doneN (m e r : Nat) : Nat := bitsN e (doneL m (prs e r))
theorem prs_zero (e : Nat) : prs e 0 = [] := by
  unfold prs
  rw [List.filter_eq_nil_iff.mpr fun b _ => by rw [Nat.zero_testBit]; decide]
  rfl
theorem comp_zero {m e r : Nat} (he : 0 < e) (hm : m ≤ e) (hem : e ≤ m + 1) (hme : m * e ≤ 12) (hr : r < 2 ^ (m * e)) : compN m e r 0 = doneN m e r := by
  rw [← then_bits he hm hem hme hr (Nat.two_pow_pos _), prs_zero]
  unfold thenL doneN
  have z : (prs e r).flatMap (fun p => (([] : List Pr).filter fun q => decide (q.1 = p.2) && decide (p.2 < m)).map fun q => (p.1, q.2)) = [] := by
    rw [List.flatMap_eq_nil_iff]
    intro x _
    rfl
  rw [z, List.append_nil]
theorem zero_comp {m e r : Nat} (he : 0 < e) (hm : m ≤ e) (hem : e ≤ m + 1) (hme : m * e ≤ 12) (hr : r < 2 ^ (m * e)) : compN m e 0 r = 0 := by
  rw [← then_bits he hm hem hme (Nat.two_pow_pos _) hr, prs_zero]
  rfl
theorem done_in {m e r s : Nat} (he : 0 < e) (hm : m ≤ e) (hem : e ≤ m + 1) (hme : m * e ≤ 12) (hr : r < 2 ^ (m * e)) (hs : s < 2 ^ (m * e)) : doneN m e r ||| compN m e r s = compN m e r s := by
  rw [← then_bits he hm hem hme hr hs]
  unfold thenL doneN
  rw [bits_app, ← Nat.or_assoc, Nat.or_self]
theorem done_lt {m e r : Nat} (he : 0 < e) (hm : m ≤ e) (hem : e ≤ m + 1) (hme : m * e ≤ 12) (hr : r < 2 ^ (m * e)) : doneN m e r < 2 ^ (m * e) := by
  rw [← comp_zero he hm hem hme hr]
  exact comp_lt ..
theorem en_ge {m : Nat} {b : Bool} : m ≤ en m b ∧ en m b ≤ m + 1 := by
  unfold en
  cases b <;> simp [Bool.toNat]
end SQ
namespace SQ
theorem or_self_l (x y : Nat) : x ||| (x ||| y) = x ||| y := by rw [← Nat.or_assoc, Nat.or_self]
end SQ

set_option Elab.async false
set_option linter.all false
set_option maxRecDepth 100000
set_option maxHeartbeats 4000000
/-! tables -/
namespace SQ
open PySem PySem.Spec PyProof.Rows L2
def inN (r s : Nat) : Bool := decide (r ||| s = s)
def monoB (k : Nat) (f : Nat → Nat) : Bool := (List.range k).all fun bit => (List.range (2 ^ k)).all fun r => inN (f r) (f (r ||| 2 ^ bit))
def monoA (k : Nat) (f : Nat → Nat) : Bool := (List.range (2 ^ k)).all fun r => (List.range (2 ^ k)).all fun s => !(inN r s && !inN (f r) (f s))
theorem in_trans {a b c : Nat} (h1 : a ||| b = b) (h2 : b ||| c = c) : a ||| c = c := by
  rw [← h2, ← Nat.or_assoc, h1]
theorem mod_more (s j : Nat) : s % 2 ^ (j + 1) = s % 2 ^ j ||| (if s.testBit j = true then 2 ^ j else 0) := Nat.eq_of_testBit_eq fun i => by
  rw [Nat.testBit_or, Nat.testBit_mod_two_pow, Nat.testBit_mod_two_pow]
  by_cases e : i = j
  · subst e
    rw [decide_eq_true (Nat.lt_succ_self i), decide_eq_false (Nat.lt_irrefl i), Bool.true_and, Bool.false_and, Bool.false_or]
    cases h : s.testBit i with
    | true => rw [if_pos rfl, Nat.testBit_two_pow, decide_eq_true rfl]
    | false => rw [if_neg (by decide), Nat.zero_testBit]
  · have z : (if s.testBit j = true then 2 ^ j else 0).testBit i = false := by
      split
      · rw [Nat.testBit_two_pow]
        exact decide_eq_false fun z => e z.symm
      · exact Nat.zero_testBit i
    rw [z, Bool.or_false]
    congr 1
    exact decide_eq_decide.mpr (by omega)
theorem mono_steps {k : Nat} {f : Nat → Nat} (h : ∀ bit, bit < k → ∀ r, r < 2 ^ k → f r ||| f (r ||| 2 ^ bit) = f (r ||| 2 ^ bit)) {r s : Nat} (hr : r < 2 ^ k) (hs : s < 2 ^ k) : ∀ j, j ≤ k → f r ||| f (r ||| s % 2 ^ j) = f (r ||| s % 2 ^ j)
  | 0, _ => by rw [Nat.pow_zero, Nat.mod_one, Nat.or_zero, Nat.or_self]
  | j + 1, hj => by
    have ih := mono_steps h hr hs j (by omega)
    rw [mod_more, ← Nat.or_assoc]
    split
    · have hx : r ||| s % 2 ^ j < 2 ^ k := Nat.or_lt_two_pow hr (Nat.lt_of_le_of_lt (Nat.mod_le _ _) hs)
      exact in_trans ih (h j (by omega) _ hx)
    · rw [Nat.or_zero]
      exact ih
theorem mono_eq (k : Nat) (f : Nat → Nat) : monoB k f = monoA k f := bool_ext (by
  unfold monoA monoB inN
  simp only [List.all_eq_true, List.mem_range, decide_eq_true_eq, Bool.not_eq_true', Bool.and_eq_false_iff, decide_eq_false_iff_not, Bool.not_eq_false]
  constructor
  · intro h r hr s hs
    by_cases c : r ||| s = s
    · refine .inr ?_
      have := mono_steps h hr hs k (Nat.le_refl k)
      rw [Nat.mod_eq_of_lt hs, c] at this
      rw [decide_eq_true this]
      rfl
    · exact .inl c
  · intro h bit hb r hr
    have hb2 : 2 ^ bit < 2 ^ k := Nat.pow_lt_pow_right (by decide) hb
    rcases h r hr (r ||| 2 ^ bit) (Nat.or_lt_two_pow hr hb2) with z | z
    · exact absurd (or_self_l r (2 ^ bit)) z
    · exact of_decide_eq_true (by rw [Bool.not_eq_false'] at z; exact z))
abbrev tbV (xs : List Nat) : List V := xs.map fun n : Nat => V.int (n : Int)
def tf (xs : List Nat) : Nat → Nat := fun r => xs.getD r 0
structure Tb (K : PySem.W.Frag) (H : Hp) (p : Addr) (k : Nat) (xs : List Nat) : Prop where
  sq : SqT K H p (tbV xs)
  len : xs.length = 2 ^ k
  lt : ∀ x ∈ xs, x < 2 ^ k
theorem Tb.same {K : PySem.W.Frag} {H H' : Hp} {p : Addr} {k : Nat} {xs : List Nat} (t : Tb K H p k xs) (s : Same H H') : Tb K H' p k xs := ⟨Same.sqT s t.sq, t.len, t.lt⟩
theorem Tb.go {K : PySem.W.Frag} {H H' : Hp} {p a : Addr} {k : Nat} {xs : List Nat} (t : Tb K H p k xs) (d : Die H a) (g : Go a H H') : Tb K H' p k xs := ⟨Go.sqT d g t.sq, t.len, t.lt⟩
theorem Tb.at {K : PySem.W.Frag} {H : Hp} {p : Addr} {k : Nat} {xs : List Nat} (t : Tb K H p k xs) {r : Nat} (h : r < 2 ^ k) : (tbV xs)[r]? = some (V.int (tf xs r : Nat)) ∧ tf xs r < 2 ^ k := by
  have hl : r < xs.length := by rw [t.len]; exact h
  have e : tf xs r = xs[r] := by
    unfold tf
    rw [List.getD_eq_getElem?_getD, List.getElem?_eq_getElem hl]
    rfl
  rw [e]
  refine ⟨?_, t.lt _ (List.getElem_mem hl)⟩
  rw [List.getElem?_map, List.getElem?_eq_getElem hl]
  rfl
/-- None, a bool, a whole number -/
def Atm (x : V) : Prop := x = .non ∨ (∃ b, x = .bl b) ∨ ∃ i, x = .int i
theorem Atm.pl {K : PySem.W.Frag} {H : Hp} {x : V} (h : Atm x) : Pl K H x := by
  rcases h with rfl | ⟨b, rfl⟩ | ⟨i, rfl⟩
  · exact .non
  · exact .bl b
  · exact .int i
/-- what is no tuple -/
inductive NoT (H : Hp) : V → Prop
  | non : NoT H .non
  | int (i : Int) : NoT H (.int i)
  | lst {p : Addr} {xs : List V} (e : H p = some (.lst xs)) : NoT H (.ref p)
  | dct {p : Addr} {kvs : List (Key × V)} (e : H p = some (.dK kvs)) : NoT H (.ref p)
def spIsTbl (C : Addr) (K : PySem.W.Frag) : Sp := fun vs H Q _ => ∃ (p : Addr) (m : Nat) (b : Bool) (v : V), vs = [.ref p, v] ∧ SpAt C H p m b ∧
  ((∃ t xs, v = .ref t ∧ SqT K H t xs ∧ (∀ x ∈ xs, Atm x) ∧ xs.length ≤ 5000 ∧ ∀ H', Same H H' → Q (.bl (decide (xs.length = 2 ^ (m * en m b)) && xs.all (inB 0 ((2 ^ (m * en m b) : Nat) - 1)))) H') ∨ (NoT H v ∧ Q (.bl false) H))
def spChkTbl (C : Addr) (K : PySem.W.Frag) : Sp := fun vs H Q _ => ∃ (p t : Addr) (m : Nat) (b : Bool) (xs : List Nat), vs = [.ref p, .ref t] ∧ SpAt C H p m b ∧ Tb K H t (m * en m b) xs ∧ ∀ H', Same H H' → Q .non H'
def spMono (C : Addr) (K : PySem.W.Frag) : Sp := fun vs H Q _ => ∃ (p t : Addr) (m : Nat) (b : Bool) (xs : List Nat), vs = [.ref p, .ref t] ∧ SpAt C H p m b ∧ Tb K H t (m * en m b) xs ∧ ∀ H', Same H H' → Q (.bl (monoB (m * en m b) (tf xs))) H'
def spComp (C : Addr) (K : PySem.W.Frag) : Sp := fun vs H Q _ => ∃ (p t u : Addr) (m : Nat) (b : Bool) (xs ys : List Nat), vs = [.ref p, .ref t, .ref u] ∧ SpAt C H p m b ∧ Tb K H t (m * en m b) xs ∧ Tb K H u (m * en m b) ys ∧ ∀ H' l, Same H H' → Tb K H' l (m * en m b) (ys.map (tf xs)) → Q (.ref l) H'
def szL (m : Nat) (b : Bool) : List V := [.int (en m b : Nat), .int ((2 ^ (m * en m b) : Nat) : Int)]
def spLMono (K : PySem.W.Frag) : Sp := fun vs H Q _ => ∃ (Z t : Addr) (m : Nat) (b : Bool) (xs : List Nat), vs = [.ref Z, .ref t] ∧ SqL K H Z (szL m b) ∧ 1 ≤ m ∧ m ≤ 2 ∧ Tb K H t (m * en m b) xs ∧ ∀ H', Same H H' → Q (.bl (monoA (m * en m b) (tf xs))) H'
def spTable (K : PySem.W.Frag) : Sp := fun vs H Q _ => ∃ (a Z : Addr) (m : Nat) (b : Bool), vs = [.ref a, .ref Z] ∧ Die H a ∧ Z ≠ a ∧ H Z = some (.lst (szL m b)) ∧ 1 ≤ m ∧ m ≤ 2 ∧ ∀ H' t xs, Go a H H' → Tb K H' t (m * en m b) xs → Q (.ref t) H'
theorem tb_all {k : Nat} {xs : List Nat} (h : ∀ x ∈ xs, x < 2 ^ k) : (tbV xs).all (inB 0 ((2 ^ k : Nat) - 1)) = true := by
  rw [List.all_eq_true]
  intro v hv
  obtain ⟨n, hn, rfl⟩ := List.mem_map.mp hv
  have := h n hn
  show (decide ((0 : Int) ≤ (n : Int)) && decide ((n : Int) ≤ _)) = true
  rw [decide_eq_true (by omega), decide_eq_true (by omega)]
  rfl
theorem tb_atm {xs : List Nat} : ∀ x ∈ tbV xs, Atm x := fun x hx => by
  obtain ⟨n, _, rfl⟩ := List.mem_map.mp hx
  exact .inr (.inr ⟨_, rfl⟩)
end SQ
namespace SQ
open PySem PySem.Spec PyProof.Rows L2
theorem Al.get {α : Type} {Φ : α → V → Prop} {ms : List α} {ys : List V} (a : Al Φ ms ys) : ∀ {i : Nat} {m : α}, ms[i]? = some m → ∃ y, ys[i]? = some y ∧ Φ m y := by
  induction a with
  | nil => intro i m h; cases i <;> cases h
  | cons h _ ih =>
    intro i m e
    cases i with
    | zero => cases e; exact ⟨_, rfl, h⟩
    | succ i => exact ih (i := i) e
theorem go_set {a D : Addr} {H H' : Hp} {o : HO} (g : Go a H H') (n : H D = none) (na : D ≠ a) : Go a H (upd H' D o) := ⟨fun c u m e => by
  rw [upd_ne (ne_of_none e n)]
  exact g.1 c u m e, by
  obtain ⟨x, y, z, e⟩ := g.2
  exact ⟨x, y, z, by rw [upd_ne na.symm]; exact e⟩⟩
theorem bits_lt {m e : Nat} {ps : List Pr} (h : ∀ x ∈ ps, x.1 < m ∧ x.2 < e) : bitsN e ps < 2 ^ (m * e) := Nat.lt_pow_two_of_testBit _ fun j hj => by
  unfold bitsN
  rw [orP_bit]
  refine decide_eq_false fun z => ?_
  obtain ⟨x, hx, rfl⟩ := List.mem_map.mp z
  have h1 := h x hx
  have h2 := at_lt h1.1 h1.2
  have h3 : cd e x = x.1 * e + x.2 := rfl
  omega
/-- a list of pairs, at an address -/
def LsAt (K : PySem.W.Frag) (H : Hp) (e r : Nat) (y : V) : Prop := ∃ l ks, y = .ref l ∧ H l = some (.lst (refs ks)) ∧ Prs K H ks ∧ prsOf ks = prs e r
theorem LsAt.same {K : PySem.W.Frag} {H H' : Hp} {e r : Nat} {y : V} (h : LsAt K H e r y) (s : Same H H') : LsAt K H' e r y := by
  obtain ⟨l, ks, rfl, h1, h2, h3⟩ := h
  exact ⟨l, ks, rfl, s _ _ h1, Prs.same h2 s, h3⟩
theorem prs_few {e r : Nat} {ks : List (Addr × Pr)} (h : prsOf ks = prs e r) : ks.length ≤ 12 := by
  have h1 : (prsOf ks).length = ks.length := List.length_map ..
  rw [← h1, h]
  exact prs_len _ _
theorem men6 {m : Nat} {b : Bool} (h1 : 1 ≤ m) (h2 : m ≤ 2) : m * en m b ≤ 6 := by
  have h : m = 1 ∨ m = 2 := by omega
  rcases h with rfl | rfl <;> cases b <;> decide
end SQ
namespace SQ
open PySem PySem.Spec PyProof.Rows L2
theorem al_nat {α : Type} {N : Nat} {ms : List α} {ys : List V} (a : Al (fun _ y => ∃ r : Nat, y = .int (r : Int) ∧ r < N) ms ys) : ∃ xs : List Nat, ys = tbV xs ∧ ∀ x ∈ xs, x < N := by
  induction a with
  | nil => exact ⟨[], rfl, fun x h => nomatch h⟩
  | cons h _ ih =>
    obtain ⟨r, rfl, hr⟩ := h
    obtain ⟨xs, rfl, hx⟩ := ih
    refine ⟨r :: xs, rfl, fun x h => ?_⟩
    rcases List.mem_cons.mp h with rfl | h
    · exact hr
    · exact hx x h
theorem rep_one {v : V} : ∀ (n : Nat), (List.replicate n [v]).flatten = List.replicate n v
  | 0 => rfl
  | n + 1 => by
    rw [List.replicate_succ, List.flatten_cons, rep_one n, List.replicate_succ]
    rfl
end SQ
namespace SQ
open PySem PySem.Spec PyProof.Rows L2
theorem Al.val {α : Type} {Φ : α → V → Prop} {ms : List α} {ys : List V} (a : Al Φ ms ys) : ∀ {i : Nat} {y : V}, ys[i]? = some y → ∃ m, Φ m y := by
  induction a with
  | nil => intro i m h; cases i <;> cases h
  | cons h _ ih =>
    intro i y e
    cases i with
    | zero => cases e; exact ⟨_, h⟩
    | succ i => exact ih (i := i) e
theorem ixN_at {n j : Nat} (h : j < n) : ixN n (j : Int) = some j := by
  unfold ixN
  rw [if_pos (by omega), if_pos (by omega)]
  rfl
end SQ
namespace SQ
open PySem PySem.Spec PyProof.Rows L2
theorem neg_ix (n d : Nat) : HT.sIx n d (some (-1)) = n - 1 := by
  show (if (-1 : Int) < 0 then ((-1 : Int) + (n : Int)).toNat else min (-1 : Int).toNat n) = n - 1
  rw [if_pos (by omega)]
  omega
theorem one_ix (n d : Nat) (h : 1 ≤ n) : HT.sIx n d (some 1) = 1 := (HT.sIx_nat n d 1).trans (by omega)
theorem cut_tail {xs : List V} (h : 2 ≤ xs.length) : ¬ (HT.sIx xs.length 0 (some 1) = 0 ∧ HT.sIx xs.length xs.length none = xs.length) ∧ cutV xs (some 1) none = xs.drop 1 := by
  refine ⟨fun z => ?_, ?_⟩
  · rw [one_ix _ _ (by omega)] at z
    omega
  · show (xs.drop (HT.sIx xs.length 0 (some 1))).take (xs.length - HT.sIx xs.length 0 (some 1)) = _
    rw [one_ix _ _ (by omega), List.take_of_length_le (by rw [List.length_drop]; exact Nat.le_refl _)]
theorem cut_init {xs : List V} (h : 2 ≤ xs.length) : ¬ (HT.sIx xs.length 0 none = 0 ∧ HT.sIx xs.length xs.length (some (-1)) = xs.length) ∧ cutV xs none (some (-1)) = xs.take (xs.length - 1) := by
  refine ⟨fun z => ?_, ?_⟩
  · rw [neg_ix] at z
    omega
  · show (xs.drop 0).take (HT.sIx xs.length xs.length (some (-1)) - 0) = _
    rw [neg_ix]
    rfl
/-- a value that is no table -/
def Odd (K : PySem.W.Frag) (a : Addr) (N : Nat) (H : Hp) (v : V) : Prop := (∃ t xs, v = .ref t ∧ SqT K H t xs ∧ (∀ x ∈ xs, Atm x) ∧ xs.length ≤ 5000 ∧ (decide (xs.length = N) && xs.all (inB 0 ((N : Nat) - 1))) = false) ∨ (NoT H v ∧ ∀ p, v = .ref p → p ≠ a)
theorem Odd.go {K : PySem.W.Frag} {a : Addr} {N : Nat} {H H' : Hp} {v : V} (o : Odd K a N H v) (d : Die H a) (g : Go a H H') : Odd K a N H' v := by
  rcases o with ⟨t, xs, rfl, h1, h2⟩ | ⟨h, n⟩
  · exact .inl ⟨t, xs, rfl, Go.sqT d g h1, h2⟩
  · refine .inr ⟨?_, n⟩
    cases h with
    | non => exact .non
    | int i => exact .int i
    | lst e => exact .lst (g.1 _ _ (n _ rfl) e)
    | dct e => exact .dct (g.1 _ _ (n _ rfl) e)
theorem Odd.same {K : PySem.W.Frag} {a : Addr} {N : Nat} {H H' : Hp} {v : V} (o : Odd K a N H v) (g : Same H H') : Odd K a N H' v := by
  rcases o with ⟨t, xs, rfl, h1, h2⟩ | ⟨h, n⟩
  · exact .inl ⟨t, xs, rfl, Same.sqT g h1, h2⟩
  · refine .inr ⟨?_, n⟩
    cases h with
    | non => exact .non
    | int i => exact .int i
    | lst e => exact .lst (g _ _ e)
    | dct e => exact .dct (g _ _ e)
theorem mono_comp {k : Nat} {xs ys : List Nat} (lx : xs.length = 2 ^ k) (ly : ys.length = 2 ^ k) (by_ : ∀ y ∈ ys, y < 2 ^ k) (h1 : monoB k (tf xs) = true) (h2 : monoB k (tf ys) = true) : monoB k (tf (ys.map (tf xs))) = true := by
  rw [mono_eq] at h1 h2 ⊢
  unfold monoA at h1 h2 ⊢
  rw [List.all_eq_true] at h1 h2 ⊢
  have at1 : ∀ r, r < 2 ^ k → tf (ys.map (tf xs)) r = tf xs (tf ys r) ∧ tf ys r < 2 ^ k := fun r hr => by
    have hl : r < ys.length := by rw [ly]; exact hr
    unfold tf
    rw [List.getD_eq_getElem?_getD, List.getD_eq_getElem?_getD (l := ys), List.getElem?_map, List.getElem?_eq_getElem hl]
    exact ⟨rfl, by_ _ (List.getElem_mem hl)⟩
  intro r hr
  have hr' := List.mem_range.mp hr
  have a1 := h2 r hr
  rw [List.all_eq_true] at a1 ⊢
  intro s hs
  have hs' := List.mem_range.mp hs
  have a2 := a1 s hs
  obtain ⟨e1, l1⟩ := at1 r hr'
  obtain ⟨e2, l2⟩ := at1 s hs'
  have b1 := h1 _ (List.mem_range.mpr l1)
  rw [List.all_eq_true] at b1
  have b2 := b1 _ (List.mem_range.mpr l2)
  rw [e1, e2]
  cases c : inN r s with
  | false => rfl
  | true =>
    rw [c] at a2
    cases c2 : inN (tf ys r) (tf ys s) with
    | false => rw [c2] at a2; cases a2
    | true => rw [c2] at b2; exact b2
/-! tables as data -/
def tbD (xs : List Nat) : PyData := .tuple (xs.map fun n : Nat => PyData.int (n : Int))
theorem dp_tb {K : PySem.W.Frag} {H : Hp} {t : Addr} {xs : List Nat} (h : SqT K H t (tbV xs)) : Dp K H (.ref t) (tbD xs) := .tup h (by
  have h : ∀ l : List Nat, DpAll K H (tbV l) (l.map fun n : Nat => PyData.int (n : Int)) := fun l => by
    induction l with
    | nil => exact .nil
    | cons x r ih => exact .cons (.int _) ih
  exact h xs)
theorem shaped_tb {xs : List Nat} : SeqAt.shaped (tbD xs) = true := by
  have h1 : ∀ l : List Nat, PyData.canLayAll0 (l.map fun n : Nat => PyData.int (n : Int)) = true := fun l => by
    induction l with
    | nil => rfl
    | cons x r ih =>
      show (PyData.canLay0 (.int (x : Int)) && PyData.canLayAll0 (r.map _)) = true
      rw [ih]
      rfl
  have h2 : ∀ l : List Nat, PyData.depthAll (l.map fun n : Nat => PyData.int (n : Int)) ≤ 1 := fun l => by
    induction l with
    | nil => exact Nat.zero_le _
    | cons x r ih =>
      show max 0 (PyData.depthAll (r.map _)) ≤ 1
      omega
  unfold SeqAt.shaped
  rw [show PyData.canLay0 (tbD xs) = true from h1 xs, decide_eq_true (show PyData.depth (tbD xs) ≤ 64 by
    show PyData.depthAll (xs.map fun n : Nat => PyData.int (n : Int)) + 1 ≤ 64
    have := h2 xs
    omega)]
  rfl
theorem eqv_tb (xs : List Nat) : PyData.eqv (tbD xs) (tbD xs) = true := SeqAt.eqv_refl _ (SeqAt.canLay_of_shaped shaped_tb)
end SQ
namespace SQ
open PySem PySem.Spec PyProof.Rows L2
theorem tf_map {f : Nat → Nat} {ys : List Nat} {z : Nat} (h : z < ys.length) : tf (ys.map f) z = f (tf ys z) := by
  unfold tf
  rw [List.getD_eq_getElem?_getD, List.getD_eq_getElem?_getD (l := ys), List.getElem?_map, List.getElem?_eq_getElem h]
  rfl
theorem comp_list {f : Nat → Nat} {ys zs : List Nat} (h : ∀ z ∈ zs, z < ys.length) : zs.map (tf (ys.map f)) = (zs.map (tf ys)).map f := by
  rw [List.map_map]
  exact List.map_congr_left fun z hz => tf_map (h z hz)
theorem atm_app {xs ys : List V} (h1 : ∀ x ∈ xs, Atm x) (h2 : ∀ x ∈ ys, Atm x) : ∀ x ∈ xs ++ ys, Atm x := fun x h => (List.mem_append.mp h).elim (h1 x) (h2 x)
end SQ
namespace SQ
open PySem PySem.Spec PyProof.Rows L2
theorem odd_ask {C sp a : Addr} {K : PySem.W.Frag} {H : Hp} {m N : Nat} {b : Bool} {v : V} {Q : VK} {E : XK} (hN : N = 2 ^ (m * en m b)) (o : Odd K a N H v) (s : SpAt C H sp m b) (q : ∀ H', Same H H' → Q (.bl false) H') : spIsTbl C K [.ref sp, v] H Q E := by
  refine ⟨sp, m, b, v, rfl, s, ?_⟩
  rcases o with ⟨t, xs, rfl, h1, h2, h3, h4⟩ | ⟨h, _⟩
  · refine .inl ⟨t, xs, rfl, h1, h2, h3, fun H' s' => ?_⟩
    rw [← hN, h4]
    exact q H' s'
  · exact .inr ⟨h, q H Same.rfl⟩
end SQ

set_option Elab.async false
set_option linter.all false
set_option maxRecDepth 100000
set_option maxHeartbeats 4000000
/-! enumerate(a tuple) -/
namespace SQ
open PySem PySem.Spec PyProof.Rows L2
open AutoSeq1 (wpAny_loadPart')
theorem meets_enum_newT (t : Addr) (its : Array Value) (n : Nat) (dd : Option Addr) (sl : Array (Option Value)) :
    Meets (Builtin.«enumerate.__new__» ⟨[.type "enumerate", .ref t], []⟩) (fun _ R s => s.heap.get? t = some { cls := .type "tuple", dict := dd, data := .seq its n, slots := sl } ∧
      R (.ok (.ret (.ref (s.heap.push { cls := .type "tuple_iterator", data := .fields #[.ref t, .int 0 0] }).objs.size)))
        { s with heap := (s.heap.push { cls := .type "tuple_iterator", data := .fields #[.ref t, .int 0 0] }).push { cls := .type "enumerate", data := .fields #[.none, .bool false, .ref s.heap.objs.size, rawInt 0, .none, .none] } }) :=
  .of_wp fun prog w A R s h => by
    obtain ⟨hp, g, d, tk, os⟩ := s
    obtain ⟨ht, h⟩ := h
    have hsub := sub_enumerate
    have hT : Heap.IsTuple (Shared.heap ⟨hp, g, d, tk, os⟩) t its := ⟨_, ht, rfl, n, rfl⟩
    wp_walk using wpAny_loadPart' ht
    refine wpAny_stack_any fun st => wpAny_pure ?_
    split
    · rename_i c _ _ _ _ _
      cases (c == Value.type "enumerate")
      · wp_walk using wpAny_loadPart' ht, wpAny_pyIter_tuple hT
        exact ⟨_, rfl, h⟩
      · wp_walk using wpAny_loadPart' ht, wpAny_pyIter_tuple hT
        exact ⟨_, rfl, h⟩
    · wp_walk using wpAny_loadPart' ht, wpAny_pyIter_tuple hT
      exact ⟨_, rfl, h⟩
section
variable {prog : Program} {w : World} {A : Around} {E : Value → Shared → Prop} {s : Shared}
theorem call_enumT {t : Addr} {its : Array Value} {Q : Value → Shared → Prop} (hT : s.heap.IsTuple t its)
    (h : ∀ h', IsEnum h' (s.heap.objs.size + 1) s.heap.objs.size 0 .none → h'.IsTupleIter s.heap.objs.size t 0 → h'.objs.size = s.heap.objs.size + 2 →
      (∀ b o, s.heap.get? b = some o → h'.get? b = some o) → Q (.ref (s.heap.objs.size + 1)) { s with heap := h' }) :
    wpAny (model prog w) A (call (.type "enumerate") [.ref t]) Q E s := by
  obtain ⟨⟨c, dd, dt, sl⟩, ht, hc, n, hd⟩ := hT
  replace hc : c = .type "tuple" := hc
  replace hd : dt = .seq its n := hd
  subst hc hd
  refine callType_new F.called_enumerate (by decide) (F.typeCall_enumerate_1 _) (F.newCall_enumerate_1 _) (fun obj => F.args_object_init_2 obj _) F.entry_enumerate_new (meets_enum_newT t its n dd sl) ⟨ht, ?_⟩
  have hz : (s.heap.push { cls := .type "tuple_iterator", data := .fields #[.ref t, .int 0 0] }).objs.size = s.heap.objs.size + 1 := Heap.size_push ..
  show _ ∧ _
  rw [hz]
  have he : IsEnum ((s.heap.push { cls := .type "tuple_iterator", data := .fields #[.ref t, .int 0 0] }).push { cls := .type "enumerate", data := .fields #[.none, .bool false, .ref s.heap.objs.size, rawInt 0, .none, .none] }) (s.heap.objs.size + 1) s.heap.objs.size 0 .none := by
    have q := Heap.get?_push_size (s.heap.push { cls := .type "tuple_iterator", data := .fields #[.ref t, .int 0 0] }) (o := { cls := .type "enumerate", data := .fields #[.none, .bool false, .ref s.heap.objs.size, rawInt 0, .none, .none] }) rfl
    rw [hz] at q
    exact q
  exact ⟨⟨_, he, rfl⟩, h _ he ⟨_, Heap.get?_push_of_some _ (Heap.get?_push_size _ rfl), rfl, rfl⟩ (by rw [Heap.size_push, hz]) fun b o x => Heap.get?_push_of_some _ (Heap.get?_push_of_some _ x)⟩
end
/-- the tuple at a, each item in a new pair -/
def IteT (K : PySem.W.Frag) (a : Addr) : It :=
  ⟨fun i H => ∃ (xs : List V) (x : V), SqT K H a xs ∧ xs[i]? = some x, fun i H v H' => ∃ T x, v = .ref T ∧ H T = none ∧ H' = upd H T (.tup [.int (i : Nat), x]) ∧ ∀ xs, SqT K H a xs → xs[i]? = some x, fun i H => ∃ xs : List V, SqT K H a xs ∧ xs.length = i⟩
theorem turn_enumT {P : Program} {w : World} {K : PySem.W.Frag} {elts : List Expr} {kk : Nat} {tpos : Pos} (a e it : Addr) :
    Turn P w K (.Tuple elts kk tpos) (IteT K a) [e, it] e (fun i h => (∃ old, IsEnum h e it ((i : Nat) : Int) old) ∧ h.IsTupleIter it a i ∧ e ≠ it ∧ a ≠ it ∧ a ≠ e) where
  mem := by simp
  obj := fun i h st b hb => by
    obtain ⟨⟨old, he⟩, ⟨o, ho, hc, hd⟩, _⟩ := st
    have e' : b = e ∨ b = it := by simpa using hb
    rcases e' with z | z
    · rw [z]; exact ⟨_, he, fun v q => nomatch q⟩
    · rw [z]; exact ⟨o, ho, fun v q => by rw [hd] at q; cases q⟩
  keep := fun i h h' st k => let ⟨⟨old, he⟩, hi, hne⟩ := st; ⟨⟨old, k e (by simp) _ he⟩, hi.at fun o q => k it (by simp) o q, hne⟩
  item := by
    intro X hP hw hK hc i pins s σ H E I hf st hg
    subst hP hw hK
    obtain ⟨⟨old, he⟩, hit, hne, ha1, ha2⟩ := st
    obtain ⟨xs, x, hq, hx⟩ := hg
    obtain ⟨its, rv, p, hz⟩ := I.tuple hq
    obtain ⟨u, hu, ru⟩ := rv.get hx
    have hel : e < s.heap.objs.size := Heap.lt_size he
    have hil : it < s.heap.objs.size := by obtain ⟨_, q, _⟩ := hit; exact Heap.lt_size q
    have li : i < its.toArray.size := by
      have := (List.getElem?_eq_some_iff.mp hu).1
      simpa using this
    refine wpAny_pyNext_enum_itemD (Draws.tuple (prog := X.prog) (w := X.w) (A := X.A.in1) (I.ok.hd hc) it a ha1 its.toArray) he ⟨hit, p⟩ li hne (by simp [ha2.symm, hne]) fun v h' tk hv ho hst hT hsz hk => ?_
    obtain ⟨hit', -⟩ := hst
    have ev : v = u := by
      have hu' : its.toArray[i]? = some u := by simpa using hu
      rw [hu'] at hv
      exact (Option.some.inj hv).symm
    subst ev
    refine ⟨_, rfl, wpAny_letOwnedTupleGo_enum (s := { s with heap := h', toks := tk + 1 }) ho fun h'' he' sb => ?_⟩
    have hT2 : h''.get? s.heap.objs.size = some { cls := .type "tuple", data := .seq #[.int i tk, v] } := (sb.2 _ (Nat.ne_of_gt hel)).trans hT
    have new : ObjOk X.prog X.w (upd H s.heap.objs.size (.tup [.int (i : Nat), x])) h'' s.heap.objs.size (.tup [.int (i : Nat), x]) := ⟨by show 2 ≤ sizeLine; decide, [.int i tk, v], .cons ⟨_, rfl⟩ (.cons ru .nil), ⟨_, hT2, rfl, _, rfl⟩⟩
    have I1 : Inv X pins σ (upd H s.heap.objs.size (.tup [.int (i : Nat), x])) { s with heap := h'', toks := tk + 1 } :=
      I.turnedNew (ch := [e, it]) (fun b ob hb q => (sb.2 b (fun z => hb (by simp [z]))).trans (hk b ob (fun z => hb (by simp [z])) (fun z => hb (by simp [z])) q)) hf (Nat.le_refl _) new
    refine ⟨.ref s.heap.objs.size, _, I1, rfl, ⟨_, x, rfl, I.hok.fresh (Nat.le_refl _), rfl, fun ys hy => by rw [I.tuple_inj hy hq]; exact hx⟩, ⟨⟨v, ?_⟩, hit'.at fun o q => (sb.2 it (Ne.symm hne)).trans q, hne, ha1, ha2⟩, fun b hb => ?_⟩
    · rw [show ((i + 1 : Nat) : Int) = (i : Int) + 1 by omega]
      exact he'
    · have hb' : b < s.heap.objs.size := by
        have e' : b = e ∨ b = it := by simpa using hb
        rcases e' with z | z
        · rw [z]; exact hel
        · rw [z]; exact hil
      rw [upd_ne (Nat.ne_of_lt hb')]
      exact (hf b hb).1
  done := by
    intro X hP hw hK hc i pins s σ H E I hf st hg
    subst hP hw hK
    obtain ⟨⟨old, he⟩, hit, hne, ha1, ha2⟩ := st
    obtain ⟨xs, hq, hx⟩ := hg
    obtain ⟨its, rv, p, hz⟩ := I.tuple hq
    obtain ⟨f0, f1, f2, f3, f4, f5⟩ := hf it (by simp)
    have hl := rv.length
    have hn : i = its.toArray.size := by simp; omega
    exact wpAny_pyNext_enum_endD (Draws.tuple (prog := X.prog) (w := X.w) (A := X.A.in1) (I.ok.hd hc) it a ha1 its.toArray) he (by rw [← hn]; exact ⟨hit, p⟩) fun h' eb => ⟨rfl, I.turned (t' := s.toks) (fun b o hb q => eb b o hb q) f0 f1 f3 f4 f5⟩
  self := fun A i s Q E st h => let ⟨⟨_, he⟩, _⟩ := st; wpAny_pyIter_enum he h
def iEnumT (K : PySem.W.Frag) (ta : TA) : TI := fun σ H R => ta σ H fun vs H1 => ∃ a xs, vs = [.ref a] ∧ SqT K H1 a xs ∧ R (IteT K a) H1
theorem pi_enumT {X : Cx} {e : Expr} {ta : TA} {p pos tpos : Pos} {elts : List Expr} {kk : Nat} (hg : Gl X "enumerate") (hm : X.mg "enumerate" = none) (ha : PA X [e] ta) (hs : starEach [e] X.env = [(false, eval e X.env)] := by rfl) :
    PI X (.Tuple elts kk tpos) (.Call (.Name "enumerate" p) [e] [] pos) (iEnumT X.K ta) := by
  refine ⟨fun pins s σ H R I h => ?_⟩
  refine Call_ (ld_blt I hg hm boot_enumerate (PyProof.Rows.callWith_type1 (thn (ha.run pos pins s σ H _ I h) fun us s1 ⟨vs, H1, I1, r1, q1⟩ => ?_) hs rfl))
  obtain ⟨a, xs, ex, hq, q⟩ := q1
  subst ex
  cases r1 with
  | cons r rr =>
    cases rr
    cases r
    obtain ⟨its, rv, p', hz⟩ := I1.tuple hq
    have al : a < s1.heap.objs.size := by
      obtain ⟨o, ho, _⟩ := p'
      exact Heap.lt_size ho
    refine call_enumT p' fun h' he hit hsz hk => wpAny_pyIter_enum he ?_
    have I2 : Inv X pins σ H1 { s1 with heap := h' } := I1.kept (t' := s1.toks) hk
    refine ⟨s1.heap.objs.size + 1, [s1.heap.objs.size + 1, s1.heap.objs.size], _, _, H1, rfl, I2, turn_enumT a (s1.heap.objs.size + 1) s1.heap.objs.size, ⟨⟨.none, he⟩, hit, Nat.succ_ne_self _, Nat.ne_of_lt al, Nat.ne_of_lt (Nat.lt_succ_of_lt al)⟩, fun b hb => ?_, q⟩
    have e' : b = s1.heap.objs.size + 1 ∨ b = s1.heap.objs.size := by simpa using hb
    have hle : s1.heap.objs.size ≤ b := by
      rcases e' with z | z
      · rw [z]; exact Nat.le_add_right _ _
      · rw [z]; exact Nat.le_refl _
    exact I1.fpOk hle (I1.hok.fresh hle)
/-- for i, x in enumerate(a tuple): by what a turn does -/
theorem for_enumT {K : PySem.W.Frag} {a : Addr} {xs : List V} {g : TG} {tb : TS} {D : Ends} {σ : L2.St} {H : Hp} (Pv : Nat → L2.St → Hp → Prop) (h0 : Pv 0 σ H) (hl : ∀ i σ H, i ≤ xs.length → Pv i σ H → SqT K H a xs)
    (hs : ∀ (i : Nat) (x : V) σ H, xs[i]? = some x → Pv i σ H → ∀ T, H T = none → g (.ref T) σ (upd H T (.tup [.int (i : Int), x])) fun σ2 H2 => tb { D with nx := Pv (i + 1), ct := Pv (i + 1), bk := D.nx } σ2 H2) (hd : ∀ σ H, Pv xs.length σ H → D.nx σ H) :
    ∃ W : Nat → Nat → L2.St → Hp → Prop, (∃ m, W 0 m σ H) ∧ ∀ i m σ H, W i m σ H →
      ((IteT K a).stop i H ∧ D.nx σ H) ∨ ((IteT K a).go i H ∧ ∃ N : L2.St → Hp → Prop, (∀ σ' H', N σ' H' → ∃ m', m' < m ∧ W (i + 1) m' σ' H') ∧ ∀ x H', (IteT K a).yld i H x H' → g x σ H' fun σ2 H2 => tb { D with nx := N, ct := N, bk := D.nx } σ2 H2) := by
  refine ⟨fun i m σ H => i ≤ xs.length ∧ m = xs.length - i ∧ Pv i σ H, ⟨_, Nat.zero_le _, rfl, h0⟩, fun i m σ H ⟨hi, hm, p⟩ => ?_⟩
  have sq := hl i σ H hi p
  by_cases l : i < xs.length
  · refine .inr ⟨⟨xs, xs[i], sq, List.getElem?_eq_getElem l⟩, Pv (i + 1), fun σ' H' h => ⟨xs.length - (i + 1), by omega, l, rfl, h⟩, fun x H' y => ?_⟩
    obtain ⟨T, z, rfl, nT, rfl, hx⟩ := y
    exact hs i z σ H (hx xs sq) p T nT
  · have e : i = xs.length := by omega
    subst e
    exact .inl ⟨⟨xs, sq, rfl⟩, hd σ H p⟩
end SQ
namespace SQ
open PySem PySem.Spec PyProof.Rows L2
theorem call_isiK {X : Cx} {K : PySem.W.Frag} (h : X.K = K) : CallR X (.builtin "isinstance") (rIsi K) := by
  subst h
  exact call_isi
def spBelow (K : PySem.W.Frag) : Sp := fun vs H Q _ => ∃ (t : Addr) (xs : List V) (n : Nat), vs = [.ref t, .int (n : Int)] ∧ SqT K H t xs ∧ (∀ x ∈ xs, Atm x) ∧ xs.length ≤ 5000 ∧ ∀ H', Same H H' → Q (.bl (xs.all (inB 0 ((n : Int) - 1)))) H'
def spGrow (K : PySem.W.Frag) : Sp := fun vs H Q _ => ∃ (t : Addr) (k : Nat) (xs : List Nat), vs = [.ref t, .int (k : Int)] ∧ Tb K H t k xs ∧ k ≤ 12 ∧ ∀ H', Same H H' → Q (.bl (monoB k (tf xs))) H'
end SQ

set_option Elab.async false
set_option linter.all false
namespace SQ
open PySem PySem.Spec PyProof.Rows L2
def topS (i : Nat) : Stmt := PySem.Challenge.pw_blockshanded_k22_tables.main.body.getD i (.Pass ⟨0, 0, 0, 0⟩)
abbrev s_wall : Stmt := topS 0
abbrev sis_integer_in : Stmt := topS 2
abbrev sare_integers_below : Stmt := topS 3
abbrev sHandError : Stmt := topS 6
abbrev sInvalidMeaning : Stmt := topS 7
abbrev sInvalidOperation : Stmt := topS 8
abbrev sInvalidNumber : Stmt := topS 9
abbrev sInvalidNumber__init__ : Stmt := inClass sInvalidNumber 0
abbrev spairs_of : Stmt := topS 11
abbrev ssame_of : Stmt := topS 12
abbrev sis_growing : Stmt := topS 13
abbrev sSpace : Stmt := topS 15
abbrev sSpace__init__ : Stmt := inClass sSpace 0
abbrev sSpacemodes : Stmt := inClass sSpace 1
abbrev sSpacewatched : Stmt := inClass sSpace 2
abbrev sSpaceends : Stmt := inClass sSpace 3
abbrev sSpacesize : Stmt := inClass sSpace 4
abbrev sSpacesame : Stmt := inClass sSpace 5
abbrev sSpacepairs : Stmt := inClass sSpace 6
abbrev sSpacerelation : Stmt := inClass sSpace 7
abbrev sSpacefollowed : Stmt := inClass sSpace 8
abbrev sSpaceeither : Stmt := inClass sSpace 9
abbrev sSpaceis_within : Stmt := inClass sSpace 10
abbrev sSpaceis_table : Stmt := inClass sSpace 11
abbrev sSpaceis_monotone : Stmt := inClass sSpace 12
abbrev sSpacecomposed : Stmt := inClass sSpace 13
abbrev sSpace_is_relation : Stmt := inClass sSpace 14
abbrev sSpace_is_pair : Stmt := inClass sSpace 15
abbrev sSpace_check_relation : Stmt := inClass sSpace 16
abbrev sSpace_check_table : Stmt := inClass sSpace 17
abbrev sSpace__eq__ : Stmt := inClass sSpace 18
abbrev sSpace__str__ : Stmt := inClass sSpace 19
abbrev s_law_urn : Stmt := topS 17
abbrev s_law_take : Stmt := topS 18
abbrev s_law_one : Stmt := topS 19
abbrev s_law_some : Stmt := topS 20
abbrev s_law_pairs : Stmt := topS 21
abbrev s_law_bits : Stmt := topS 22
abbrev s_law_then : Stmt := topS 23
abbrev s_law_within : Stmt := topS 24
abbrev s_law_sizes : Stmt := topS 25
abbrev s_law_is_monotone : Stmt := topS 26
abbrev s_law_table : Stmt := topS 27
abbrev s_law_right : Stmt := topS 28
abbrev slaw : Stmt := topS 29
end SQ

set_option Elab.async false
set_option linter.all false
set_option maxRecDepth 100000
set_option maxHeartbeats 4000000
namespace SQ
open PySem PySem.Spec PyProof.Rows L2
section
variable {P : Program} {w : World} {K : PySem.W.Frag} {mg : Str → Option Value} {base : Heap}
abbrev Nis_integer_in : List Str := ["value", "least", "greatest"]
theorem scis_integer_in : FnScope Nis_integer_in ["value", "least", "greatest"] (defScope sis_integer_in) := ⟨rfl, rfl, rfl, by decide +kernel, rfl, by decide +kernel, by decide +kernel⟩
theorem ok_is_integer_in {f : Addr} {fd : FuncData} (F : Fun K "is_integer_in" "is_integer_in" sis_integer_in f fd) (T : Nm mg) : FnOk P w K mg base CX0 2 f fd ["value", "least", "greatest"] (spIntIn K) := by
  have nd := scis_integer_in.nd
  refine F.ok scis_integer_in (fun vs H Q E h => ?_) (fun cdv A outer s H vs Q E hr h => ?_)
  · obtain ⟨v, a, b, rfl, pl, q⟩ := h
    rfl
  · obtain ⟨v, a, b, rfl, pl, q⟩ := h
    skip
    refine ⟨_, (pss_one (ps_ret (pe_and (pe_callB call_isi (by rfl) T.b_isinstance (by decide +kernel) (pa_cons (pv 0) (pa_cons (pe_bltn (v := .ty "int") (by rfl) T.b_int (by decide +kernel) rfl) pa_nil))) (pe_and (pe_not (pe_callB call_isi (by rfl) T.b_isinstance (by decide +kernel) (pa_cons (pv 0) (pa_cons (pe_bltn (v := .ty "bool") (by rfl) T.b_bool (by decide +kernel) rfl) pa_nil)))) (pe_one (pe_chain op_le op_le (pv 1) (pv 0) (pv 2))))))), ?_⟩

    cases pl with
    | non =>
      refine ⟨_, rfl, _, _, _, _, false, rfl, .ty "int", .base .non, kit_ty (show kitB "NoneType" "int" = some false by decide +kernel), false, rfl, ?_⟩
      exact q
    | bl b' =>
      refine ⟨_, rfl, _, _, _, _, true, rfl, .ty "int", .base (.bl b'), kit_ty (show kitB "bool" "int" = some true by decide +kernel), true, rfl, ?_⟩
      refine ⟨_, rfl, _, _, _, _, true, rfl, .ty "bool", .base (.bl b'), kit_ty (show kitB "bool" "bool" = some true by decide +kernel), true, rfl, ?_⟩
      refine ⟨false, rfl, ?_⟩
      exact q
    | int i =>
      refine ⟨_, rfl, _, _, _, _, true, rfl, .ty "int", .base (.int i), kit_ty (show kitB "int" "int" = some true by decide +kernel), true, rfl, ?_⟩
      refine ⟨_, rfl, _, _, _, _, false, rfl, .ty "bool", .base (.int i), kit_ty (show kitB "int" "bool" = some false by decide +kernel), false, rfl, ?_⟩
      refine ⟨true, rfl, ?_⟩
      refine iteT ?_
      refine ⟨_, rfl, _, rfl, _, _, rfl, rfl, _, rfl, ite2 (fun e1 => ?_) (fun e1 => ?_)⟩
      · refine ⟨_, rfl, _, _, rfl, rfl, ?_⟩
        rw [show inB a b (.int i) = (decide (a ≤ i) && decide (i ≤ b)) from rfl, e1, Bool.true_and] at q
        exact q
      · rw [show inB a b (.int i) = (decide (a ≤ i) && decide (i ≤ b)) from rfl, Bool.not_eq_true _ |>.mp e1, Bool.false_and] at q
        exact q
    | tup e =>
      refine ⟨_, rfl, _, _, _, _, false, rfl, .ty "int", ty_tup e, kit_ty (show kitB "tuple" "int" = some false by decide +kernel), false, rfl, ?_⟩
      exact q
    | lst e =>
      refine ⟨_, rfl, _, _, _, _, false, rfl, .ty "int", .base (.lst e), kit_ty (show kitB "list" "int" = some false by decide +kernel), false, rfl, ?_⟩
      exact q
    | dct e =>
      refine ⟨_, rfl, _, _, _, _, false, rfl, .ty "int", .base (.dK e), kit_ty (show kitB "dict" "int" = some false by decide +kernel), false, rfl, ?_⟩
      exact q
end
end SQ

set_option Elab.async false
set_option linter.all false
set_option maxRecDepth 100000
set_option maxHeartbeats 4000000
namespace SQ
open PySem PySem.Spec PyProof.Rows L2
section
variable {P : Program} {w : World} {K : PySem.W.Frag} {mg : Str → Option Value} {base : Heap}
abbrev Nare_integers_below : List Str := ["values", "limit", "value"]
theorem scare_integers_below : FnScope Nare_integers_below ["values", "limit"] (defScope sare_integers_below) := ⟨rfl, rfl, rfl, by decide +kernel, rfl, by decide +kernel, by decide +kernel⟩
theorem ok_are_integers_below {f : Addr} {fd : FuncData} (F : Fun K "are_integers_below" "are_integers_below" sare_integers_below f fd) (T : Nm mg) : FnOk P w K mg base CX0 1 f fd ["values", "limit"] (spBelow K) := by
  have nd := scare_integers_below.nd
  refine F.ok scare_integers_below (fun vs H Q E h => ?_) (fun cdv A outer s H vs Q E hr h => ?_)
  · obtain ⟨t, xs, n, rfl, sq, at', few, q⟩ := h
    rfl
  · obtain ⟨t, xs, n, rfl, sq, at', few, q⟩ := h
    skip
    refine ⟨_, (pss_one (ps_ret (pe_callB (cr_all rfl) (by rfl) T.b_all (by decide +kernel) (pa_cons (pe_lc (own := [("value", 2)]) (g := gName 2) (tt := tYes) rfl nd (pi_tup (pv 0)) (blkOk_by (own := [("value", 2)]) (N := Nare_integers_below) (sc := defScope sare_integers_below) (by decide +kernel)) (fun _ _ _ _ _ => (pg_name (i := 2) nd rfl (Or.inl rfl))) (fun _ _ _ _ _ => pts_nil) (fun _ _ _ _ _ => (pe_and (pe_callB (call_isiK (K := K) rfl) (by rfl) T.b_isinstance (by decide +kernel) (pa_cons (pv 2) (pa_cons (pe_bltn (v := .ty "int") (by rfl) T.b_int (by decide +kernel) rfl) pa_nil))) (pe_and (pe_not (pe_callB (call_isiK (K := K) rfl) (by rfl) T.b_isinstance (by decide +kernel) (pa_cons (pv 2) (pa_cons (pe_bltn (v := .ty "bool") (by rfl) T.b_bool (by decide +kernel) rfl) pa_nil)))) (pe_one (pe_chain op_le op_lt pe_int (pv 2) (pv 1))))))) pa_nil)))), ?_⟩

    refine ⟨_, rfl, t, rfl, ⟨_, sq⟩, fun D nD => ?_⟩
    refine lcT (xs := xs) xs id (fun _ => true) (fun x y _ => y = .bl (inB 0 ((n : Int) - 1) x)) (List.map_id xs).symm (Rg.same nD) (fun H' s => Same.sqT s sq) (fun _ _ _ _ _ _ h => h) (fun _ _ _ _ _ _ h => h) (by omega) (fun x H1 Ok No hx s1 _ ok _ => ?_) (fun H1 ys s1 e1 al => ?_)
    · rcases at' x hx with rfl | ⟨b', rfl⟩ | ⟨i, rfl⟩
      · refine ⟨rfl, _, rfl, _, _, _, _, false, rfl, .ty "int", .base .non, kit_ty (show kitB "NoneType" "int" = some false by decide +kernel), false, rfl, ?_⟩
        exact ok rfl _ _ Same.rfl rfl
      · refine ⟨rfl, _, rfl, _, _, _, _, true, rfl, .ty "int", .base (.bl b'), kit_ty (show kitB "bool" "int" = some true by decide +kernel), true, rfl, ?_⟩
        refine ⟨_, rfl, _, _, _, _, true, rfl, .ty "bool", .base (.bl b'), kit_ty (show kitB "bool" "bool" = some true by decide +kernel), true, rfl, ?_⟩
        refine ⟨false, rfl, ?_⟩
        exact ok rfl _ _ Same.rfl rfl
      · refine ⟨rfl, _, rfl, _, _, _, _, true, rfl, .ty "int", .base (.int i), kit_ty (show kitB "int" "int" = some true by decide +kernel), true, rfl, ?_⟩
        refine ⟨_, rfl, _, _, _, _, false, rfl, .ty "bool", .base (.int i), kit_ty (show kitB "int" "bool" = some false by decide +kernel), false, rfl, ?_⟩
        refine ⟨true, rfl, ?_⟩
        refine iteT ?_
        have eb : inB 0 ((n : Int) - 1) (.int i) = (decide (0 ≤ i) && decide (i < (n : Int))) := by
          show (decide (0 ≤ i) && decide (i ≤ (n : Int) - 1)) = _
          congr 1
          exact decide_eq_decide.mpr (by omega)
        refine ⟨_, rfl, _, _, rfl, rfl, _, rfl, ite2 (fun e1 => ?_) (fun e1 => ?_)⟩
        · refine ⟨_, rfl, _, _, rfl, rfl, ?_⟩
          refine ok rfl _ _ Same.rfl ?_
          rw [eb, e1, Bool.true_and]
        · refine ok rfl _ _ Same.rfl ?_
          rw [eb, Bool.not_eq_true _ |>.mp e1, Bool.false_and]
    · have e2 := (al.mono (Ψ := fun x y => y = V.bl (inB 0 ((n : Int) - 1) x)) fun _ _ h => h).map
      rw [List.filter_eq_self.mpr (fun _ _ => rfl)] at e2
      refine ⟨D, xs.map (inB 0 ((n : Int) - 1)), rfl, .inl (.inl ?_), ?_⟩
      · rw [e1, e2, List.map_map]
        rfl
      · have z : (xs.map (inB 0 ((n : Int) - 1))).all id = xs.all (inB 0 ((n : Int) - 1)) := by
          rw [List.all_map]
          rfl
        rw [z]
        exact q H1 s1
end
end SQ

set_option Elab.async false
set_option linter.all false
set_option maxRecDepth 100000
set_option maxHeartbeats 4000000
namespace SQ
open PySem PySem.Spec PyProof.Rows L2
section
variable {P : Program} {w : World} {K : PySem.W.Frag} {mg : Str → Option Value} {base : Heap}
abbrev Nis_growing : List Str := ["table", "bits", "bit", "less", "found", "greater"]
theorem scis_growing : FnScope Nis_growing ["table", "bits"] (defScope sis_growing) := ⟨rfl, rfl, rfl, by decide +kernel, rfl, by decide +kernel, by decide +kernel⟩
theorem ok_is_growing {f : Addr} {fd : FuncData} (F : Fun K "is_growing" "is_growing" sis_growing f fd) (T : Nm mg) (ben : mg "enumerate" = none) : FnOk P w K mg base CX0 1 f fd ["table", "bits"] (spGrow K) := by
  have nd := scis_growing.nd
  refine F.ok scis_growing (fun vs H Q E h => ?_) (fun cdv A outer s H vs Q E hr h => ?_)
  · obtain ⟨t, k, xs, rfl, tb, big, q⟩ := h
    rfl
  · obtain ⟨t, k, xs, rfl, tb, big, q⟩ := h
    skip
    refine ⟨_, (pss_cons (ps_for PassesOwn.never rfl (pi_range1 rfl T.b_range (pa_cons (pv 1) pa_nil)) (pg_name (i := 2) nd rfl (Or.inl rfl))
  (pss_one (ps_for PassesOwn.never rfl (pi_enumT (by rfl) ben (pa_cons (pv 0) pa_nil)) (pg_tup rfl (pgs_cons (pg_name (i := 3) nd rfl (Or.inl rfl)) (pgs_cons (pg_name (i := 4) nd rfl (Or.inl rfl)) pgs_nil)))
  (pss_cons (ps_set (i := 5) nd rfl (Or.inl rfl) (pe_ix ix_tup (pv 0) (pe_op op_orNN (pv 3) (pe_op op_shlNN pe_int (pv 2))) (fun _ _ => rfl)))
  (pss_one (ps_if (pt_cmpR op_ne (pe_op op_orNN (pv 4) (pv 5)) (pv 5) (nomark _))
  (pss_one (ps_ret pe_bl))
  pss_nil))))))
  (pss_one (ps_ret pe_bl))), ?_⟩

    refine ⟨_, rfl, _, rfl, by omega, by omega, ?_⟩
    refine for_rgN (n := k) (fun i σ H' => (∃ t2 t3 t4 t5, σ = [some (.ref t), some (.int (k : Int)), t2, t3, t4, t5]) ∧ Same H H' ∧ ∀ bit, bit < i → ∀ r, r < 2 ^ k → inN (tf xs r) (tf xs (r ||| 2 ^ bit)) = true) ⟨⟨_, _, _, _, rfl⟩, Same.rfl, fun bit h => absurd h (Nat.not_lt_zero _)⟩ (fun i σ H2 hi hp => ?_) (fun σ H2 hp => ?_)
    · obtain ⟨⟨t2, t3, t4, t5, rfl⟩, s2, hd⟩ := hp
      have tl : (tbV xs).length = 2 ^ k := by rw [← tb.len]; exact List.length_map ..
      refine ⟨_, rfl, t, tbV xs, rfl, (tb.same s2).sq, for_enumT (xs := tbV xs) (fun j σ H' => (∃ t3 t4 t5, σ = [some (.ref t), some (.int (k : Int)), some (.int (i : Int)), t3, t4, t5]) ∧ Same H H' ∧ ∀ r, r < j → inN (tf xs r) (tf xs (r ||| 2 ^ i)) = true) ⟨⟨_, _, _, rfl⟩, s2, fun r h => absurd h (Nat.not_lt_zero _)⟩ (fun j σ H3 hj hp => (tb.same hp.2.1).sq) (fun j x σ H3 hx hp T nT => ?_) (fun σ H3 hp => ?_)⟩
      · obtain ⟨⟨t3, t4, t5, rfl⟩, s3, hd2⟩ := hp
        have hj : j < 2 ^ k := by
          rw [← tl]
          exact (List.getElem?_eq_some_iff.mp hx).1
        have hb2 : 2 ^ i < 2 ^ k := Nat.pow_lt_pow_right (by decide) hi
        have hg : j ||| 2 ^ i < 2 ^ k := Nat.or_lt_two_pow hj hb2
        have s4 := s3.trans (same_upd (o := .tup [V.int (j : Int), x]) nT)
        have tb3 := tb.same s4
        obtain rfl : x = V.int (tf xs j : Nat) := by
          have := (tb.at hj).1
          rw [hx] at this
          exact Option.some.inj this
        refine ⟨T, _, rfl, .inl (.inl upd_same), rfl, _, _, rfl, _, _, rfl, rfl, ?_⟩
        generalize upd H3 T (.tup [V.int (j : Int), V.int (tf xs j : Nat)]) = H4 at s4 tb3 ⊢
        refine ⟨_, rfl, _, rfl, _, rfl, 1, i, rfl, rfl, by decide, by omega, j, _, rfl, rfl, ?_⟩
        rw [Nat.one_mul]
        refine ⟨t, _, _, _, rfl, rfl, tb3.sq, atI_nat (tb3.at hg).1, ?_⟩
        refine ⟨_, rfl, _, rfl, _, _, rfl, rfl, _, rfl, rfl, _, rfl, ?_⟩
        rw [int_dec]
        by_cases c : tf xs j ||| tf xs (j ||| 2 ^ i) = tf xs (j ||| 2 ^ i)
        · rw [decide_eq_true c]
          refine iteF ⟨⟨_, _, _, rfl⟩, s4, fun r hr => ?_⟩
          by_cases z : r = j
          · subst z
            exact decide_eq_true c
          · exact hd2 r (by omega)
        · rw [decide_eq_false c]
          refine iteT ?_
          have z : monoB k (tf xs) = false := by
            refine Bool.eq_false_iff.mpr fun z => c ?_
            unfold monoB at z
            rw [List.all_eq_true] at z
            have z2 := z i (List.mem_range.mpr hi)
            rw [List.all_eq_true] at z2
            exact of_decide_eq_true (z2 j (List.mem_range.mpr hj))
          have := q H4 s4
          rw [z] at this
          exact this
      · obtain ⟨⟨t3, t4, t5, rfl⟩, s3, hd2⟩ := hp
        rw [tl] at hd2
        refine ⟨⟨_, _, _, _, rfl⟩, s3, fun bit hb r hr => ?_⟩
        by_cases z : bit = i
        · subst z
          exact hd2 r hr
        · exact hd bit (by omega) r hr
    · obtain ⟨⟨t2, t3, t4, t5, rfl⟩, s2, hd⟩ := hp
      have z : monoB k (tf xs) = true := by
        unfold monoB
        rw [List.all_eq_true]
        intro bit hb
        rw [List.all_eq_true]
        exact fun r hr => hd bit (List.mem_range.mp hb) r (List.mem_range.mp hr)
      have := q H2 s2
      rw [z] at this
      exact this
end
end SQ

set_option Elab.async false
set_option linter.all false
set_option maxRecDepth 100000
set_option maxHeartbeats 4000000
namespace SQ
open PySem PySem.Spec PyProof.Rows L2
section
variable {P : Program} {w : World} {K : PySem.W.Frag} {mg : Str → Option Value} {base : Heap}
abbrev Nsame_of : List Str := ["modes", "ends", "mode"]
theorem scsame_of : FnScope Nsame_of ["modes", "ends"] (defScope ssame_of) := ⟨rfl, rfl, rfl, by decide +kernel, rfl, by decide +kernel, by decide +kernel⟩
theorem ok_same_of {f : Addr} {fd : FuncData} (F : Fun K "same_of" "same_of" ssame_of f fd) (T : Nm mg) : FnOk P w K mg base CX0 1 f fd ["modes", "ends"] (spSame) := by
  have nd := scsame_of.nd
  refine F.ok scsame_of (fun vs H Q E h => ?_) (fun cdv A outer s H vs Q E hr h => ?_)
  · obtain ⟨m, e, rfl, hm, he, q⟩ := h
    rfl
  · obtain ⟨m, e, rfl, hm, he, q⟩ := h
    skip
    refine ⟨_, (pss_one (ps_ret (pe_callB (cr_sum rfl) (by rfl) T.b_sum (by decide +kernel) (pa_cons (pe_lc (own := [("mode", 2)]) (g := gName 2) (tt := tYes) rfl nd (pi_range1 rfl T.b_range (pa_cons (pv 0) pa_nil)) (blkOk_by (own := [("mode", 2)]) (N := Nsame_of) (sc := defScope ssame_of) (by decide +kernel)) (fun _ _ _ _ _ => (pg_name (i := 2) nd rfl (Or.inl rfl))) (fun _ _ _ _ _ => pts_nil) (fun _ _ _ _ _ => (pe_op op_shlNN pe_int (pe_op op_addN (pe_op op_mulN (pv 2) (pv 1)) (pv 2))))) pa_nil)))), ?_⟩

    refine ⟨_, rfl, _, rfl, by omega, by omega, fun D nD => ?_⟩
    refine lcR (n := m) (fun _ => true) (fun i y _ => y = .int ((2 ^ (i * e + i) : Nat) : Int)) (Rg.same nD) (fun _ _ _ _ _ _ h => h) (fun _ _ _ _ _ _ h => h) (by omega) (fun i H1 Ok No hi s1 _ ok _ => ?_) (fun H1 ys s1 e1 al => ?_)
    · have h3 : i * e ≤ 3 * 4 := Nat.mul_le_mul (by omega) he
      refine ⟨rfl, _, rfl, _, rfl, i, e, rfl, rfl, by omega, ?_⟩
      refine ⟨_, rfl, i * e, i, rfl, rfl, 1, i * e + i, rfl, rfl, by decide, by omega, ok rfl _ _ Same.rfl ?_⟩
      rw [Nat.one_mul]
    · have e2 := al.map
      rw [List.filter_eq_self.mpr (fun _ _ => rfl)] at e2
      refine ⟨D, (List.range m).map fun i => ((2 ^ (i * e + i) : Nat) : Int), rfl, .inl (.inl ?_), ?_⟩
      · rw [e1, e2, List.map_map]
        rfl
      · have h2 : ((List.range m).map fun i => ((2 ^ (i * e + i) : Nat) : Int)).sum = ((sameN m e : Nat) : Int) := same_sum m e
        rw [h2]
        exact q H1 s1
end
end SQ

set_option Elab.async false
set_option linter.all false
set_option maxRecDepth 100000
set_option maxHeartbeats 4000000
namespace SQ
open PySem PySem.Spec PyProof.Rows L2
section
variable {P : Program} {w : World} {K : PySem.W.Frag} {mg : Str → Option Value} {base : Heap}
abbrev NSpace__init__ : List Str := ["self", "modes", "watched"]
theorem scSpace__init__ : FnScope NSpace__init__ ["self", "modes", "watched"] (defScope sSpace__init__) := ⟨rfl, rfl, rfl, by decide +kernel, rfl, by decide +kernel, by decide +kernel⟩
theorem ok_Space__init__ {f : Addr} {fd : FuncData} (F : FunD K "__init__" "Space.__init__" (defArgs sSpace__init__) (defBody sSpace__init__) (defScope sSpace__init__) [] [("watched", .bl false)] f fd) (T : Nm mg) {C : Addr} (PC : SpC K mg C) (Cis_integer_in : Cal P w K mg base 2 "is_integer_in" ["value", "least", "greatest"] (spIntIn K)) (Csame_of : Cal P w K mg base 1 "same_of" ["modes", "ends"] spSame) : FnOk P w K mg base CX0 3 f fd ["self", "modes", "watched"] (spInit C) := by
  have nd := scSpace__init__.nd
  refine F.ok scSpace__init__ (fun vs H Q E h => ?_) (fun cdv A outer s H vs Q E hr h => ?_)
  · obtain ⟨p, dx, m, b, rfl, hp, m1, m3, q⟩ := h
    rfl
  · obtain ⟨p, dx, m, b, rfl, hp, m1, m3, q⟩ := h
    obtain ⟨t3, g3⟩ := T.g_MAX_MODES
    refine ⟨_, (pss_cons (ps_if (pt_not (pt_val (pe_own Cis_integer_in (hr.mono (by decide)) (by rfl) (pa_cons (pv 1) (pa_cons pe_int (pa_cons (pe_glob (v := .int 3) (by rfl) g3 ⟨_, rfl⟩) pa_nil))))))
  (pss_one ps_never)
  pss_nil)
  (pss_cons (ps_if (pt_not (pt_val (pe_callB call_isi (by rfl) T.b_isinstance (by decide +kernel) (pa_cons (pv 2) (pa_cons (pe_bltn (v := .ty "bool") (by rfl) T.b_bool (by decide +kernel) rfl) pa_nil)))))
  (pss_one ps_never)
  pss_nil)
  (pss_cons (ps_fld (pv 0) (pv 1) rfl)
  (pss_cons (ps_fld (pv 0) (pv 2) rfl)
  (pss_cons (ps_fld (pv 0) (pe_ifExp (pt_val (pv 2)) (pe_op op_addN (pv 1) pe_int) (pv 1)) rfl)
  (pss_cons (ps_fld (pv 0) (pe_op op_shlNN pe_int (pe_op op_mulN (pv 1) (pe_fld (pv 0) rfl))) rfl)
  (pss_one (ps_fld (pv 0) (pe_own Csame_of (hr.mono (by decide)) (by rfl) (pa_cons (pv 1) (pa_cons (pe_fld (pv 0) rfl) pa_nil))) rfl)))))))), ?_⟩

    have hb : inB 1 3 (.int (m : Int)) = true := by
      show (decide ((1 : Int) ≤ (m : Int)) && decide ((m : Int) ≤ 3)) = true
      rw [decide_eq_true (by omega), decide_eq_true (by omega)]
      rfl
    refine ⟨_, rfl, .int (m : Int), 1, 3, rfl, .int _, ?_⟩
    rw [hb]
    refine ⟨_, rfl, iteF ?_⟩
    refine ⟨_, rfl, _, _, _, _, true, rfl, .ty "bool", .base (.bl b), kit_ty (show kitB "bool" "bool" = some true by decide +kernel), true, rfl, iteF ?_⟩
    have fin : ∀ {H0 H' H'' : Hp} {fs : List (Str × V)} {y : V} {g : Str}, (∀ c o, c ≠ p → H0 c = some o → H' c = some o) → upd H' p (.ins C dx (putF g y fs)) = H'' → (∀ c o, c ≠ p → H0 c = some o → H'' c = some o) ∧ H'' p = some (.ins C dx (putF g y fs)) := fun k h => by
      subst h
      exact ⟨fun c o n e => by rw [upd_ne n]; exact k c o n e, upd_same⟩
    have k0 : ∀ c o, c ≠ p → H c = some o → H c = some o := fun _ _ _ e => e
    refine ⟨_, rfl, _, rfl, p, C, dx, [], rfl, hp, PC.cl, PC.a1, by show 0 < 1000; decide, ?_⟩
    generalize hh : upd H p _ = H1
    obtain ⟨k1, e1⟩ := fin k0 hh
    clear hh k0
    refine ⟨_, rfl, _, rfl, p, C, dx, _, rfl, e1, PC.cl, PC.a2, by show 1 < 1000; decide, ?_⟩
    rw [show putF "_modes" (V.int (m : Int)) [] = [(("_modes" : Str), V.int (m : Int))] from rfl, pf2]
    obtain ⟨k2, e2⟩ := fin (g := "_watched") (y := .bl b) (fs := [("_modes", V.int (m : Int))]) k1 rfl
    rw [pf2] at k2 e2
    generalize upd H1 p _ = H2 at k2 e2 ⊢
    clear k1 e1
    refine ⟨_, rfl, _, rfl, ?_⟩
    have goal : ∀ z : Nat, z = en m b → ∀ G : Prop, (∀ H3, (∀ c o, c ≠ p → H c = some o → H3 c = some o) → H3 p = some (.ins C dx [("_modes", V.int (m : Int)), ("_watched", V.bl b), ("_ends", V.int (z : Int))]) → H3 = upd H2 p (.ins C dx [("_modes", V.int (m : Int)), ("_watched", V.bl b), ("_ends", V.int (z : Int))]) → G) → G := fun z _ G h => by
      obtain ⟨k3, e3⟩ := fin (g := "_ends") (y := V.int (z : Int)) (fs := [("_modes", V.int (m : Int)), ("_watched", V.bl b)]) k2 rfl
      rw [pf3] at k3 e3
      exact h _ k3 e3 rfl
    have big := men_le (b := b) ⟨m1, m3⟩
    have enl := en_le (b := b) ⟨m1, m3⟩
    cases b
    case' true => refine iteT ⟨_, rfl, m, 1, rfl, rfl, ?_⟩
    case' false => refine iteF ⟨_, rfl, ?_⟩
    all_goals
      refine ⟨_, rfl, p, C, dx, _, rfl, e2, PC.cl, PC.a3, by show 2 < 1000; decide, ?_⟩
      rw [pf3]
      first
        | (refine goal (m + 1) rfl _ fun H3 k3 e3 eq => ?_
           rw [← eq])
        | (refine goal m rfl _ fun H3 k3 e3 eq => ?_
           rw [← eq])
      clear eq k2 e2 goal
      refine ⟨_, rfl, _, rfl, p, C, dx, _, _, rfl, e3, PC.cl, PC.a3, lkm1, m, _, rfl, rfl, by omega, 1, _, rfl, rfl, by decide, Nat.le_trans big (by decide), ?_⟩
      refine ⟨_, rfl, p, C, dx, _, rfl, e3, PC.cl, PC.a4, by show 3 < 1000; decide, ?_⟩
      rw [pf4, Nat.one_mul]
      generalize hh : upd H3 p _ = H4
      have e4 := (congrFun hh p).symm.trans upd_same
      have k4 : ∀ c o, c ≠ p → H c = some o → H4 c = some o := fun c o n e => by
        rw [← hh, upd_ne n]
        exact k3 c o n e
      clear hh
      refine ⟨_, rfl, _, rfl, p, C, dx, _, _, rfl, e4, PC.cl, PC.a3, lkm2, m, _, rfl, m3, enl.2, fun H5 s5 => ?_⟩
      have e5 := s5 _ _ e4
      refine ⟨_, rfl, p, C, dx, _, rfl, e5, PC.cl, PC.a5, by show 4 < 1000; decide, ?_⟩
      rw [pf5]
      generalize hh : upd H5 p _ = H6
      have e6 := (congrFun hh p).symm.trans upd_same
      refine q H6 (fun c o n e => ?_) e6
      rw [← hh, upd_ne n]
      exact s5 _ _ (k4 c o n e)
end
end SQ

set_option Elab.async false
set_option linter.all false
set_option maxRecDepth 100000
set_option maxHeartbeats 4000000
namespace SQ
open PySem PySem.Spec PyProof.Rows L2
theorem init_binds {K : PySem.W.Frag} {f : Addr} {fd : FuncData} (F : FunD K "__init__" "Space.__init__" (defArgs sSpace__init__) (defBody sSpace__init__) (defScope sSpace__init__) [] [("watched", .bl false)] f fd) :
    (∃ ds, Vals [V.bl false] ds ∧ Binds K fd ["self", "modes", "watched"] ds) ∧ KBn K fd ["self", "modes", "watched"] 2 ["watched"] (fun us ws => us ++ ws) (fun vs zs => vs ++ zs) := by
  refine ⟨?_, ?_⟩
  · exact F.binds0 (ps := ["self", "modes", "watched"]) 2 (List.cons_ne_nil _ _) rfl fun D doc pm an cdv ct us ks h1 h2 => match us, h1, ks, h2 with
      | [_, _], _, [_], _ => ⟨_, _, _, _, _, _, rfl, rfl, rfl⟩
  · obtain ⟨oc, od, dV, kV, doc, pm, an, cdv, ct, osl, rfl, lk, hcd, hD, hK⟩ := F.ex
    rcases hD with ⟨_, rfl⟩ | ⟨e, _⟩
    · exact ⟨fun s us ws X l1 l2 => match us, l1, ws, l2 with
        | [_, _], _, [_], _ => .of_eq rfl, fun r1 r2 => r1.append r2⟩
    · exact absurd rfl e
end SQ

set_option Elab.async false
set_option linter.all false
set_option maxRecDepth 100000
set_option maxHeartbeats 4000000
namespace SQ
open PySem PySem.Spec PyProof.Rows L2
section
variable {P : Program} {w : World} {K : PySem.W.Frag} {mg : Str → Option Value} {base : Heap}
abbrev NSpace__eq__ : List Str := ["self", "other"]
theorem scSpace__eq__ : FnScope NSpace__eq__ ["self", "other"] (defScope sSpace__eq__) := ⟨rfl, rfl, rfl, by decide +kernel, rfl, by decide +kernel, by decide +kernel⟩
theorem ok_Space__eq__ {f : Addr} {fd : FuncData} (F : Fun K "__eq__" "Space.__eq__" sSpace__eq__ f fd) (T : Nm mg) {C : Addr} (PC : SpC K mg C) : FnOk P w K mg base CX0 1 f fd ["self", "other"] (spEq C K) := by
  have nd := scSpace__eq__.nd
  refine F.ok scSpace__eq__ (fun vs H Q E h => ?_) (fun cdv A outer s H vs Q E hr h => ?_)
  · obtain ⟨p, m, b, y, rfl, sp, q⟩ := h
    rfl
  · obtain ⟨p, m, b, y, rfl, sp, q⟩ := h
    skip
    refine ⟨_, (pss_one (ps_ret (pe_and (pe_callB call_isi (by rfl) T.b_isinstance (by decide +kernel) (pa_cons (pv 1) (pa_cons (pe_glob (v := .ref C) (by rfl) PC.gC rfl) pa_nil))) (pe_and (pe_cmpR op_eq (pe_fld (pv 0) rfl) (pe_fld (pv 1) rfl) (nomark _)) (pe_one (pe_cmpR op_eq (pe_fld (pv 0) rfl) (pe_fld (pv 1) rfl) (nomark _))))))), ?_⟩

    obtain ⟨mm, dx, e⟩ := sp
    rcases q with ⟨p2, n, c, rfl, ⟨nn, dx2, e2⟩, q⟩ | ⟨t, xs, rfl, sq, q⟩
    · have ty : TyX K H (.ref p2) (.ref C) := .base (.ins e2 PC.cl PC.ha PC.hn PC.htk PC.hm)
      refine ⟨_, rfl, _, _, _, _, true, rfl, .own C, ty, PC.self, true, rfl, iteT ?_⟩
      refine ⟨_, rfl, p, C, dx, _, _, rfl, e, PC.cl, PC.a1, lk1, _, rfl, p2, C, dx2, _, _, rfl, e2, PC.cl, PC.a1, lk1, rfl, _, rfl, ?_⟩
      rw [int_dec]
      refine ite2 (fun h => ?_) (fun h => ?_)
      · rw [h, Bool.true_and] at q
        refine ⟨_, rfl, p, C, dx, _, _, rfl, e, PC.cl, PC.a2, lk2, _, rfl, p2, C, dx2, _, _, rfl, e2, PC.cl, PC.a2, lk2, rfl, ?_⟩
        have eb : decide (V.bl b = V.bl c) = (b == c) := by cases b <;> cases c <;> rfl
        rw [eb]
        exact q
      · rw [Bool.not_eq_true _ |>.mp h, Bool.false_and] at q
        exact q
    · exact ⟨_, rfl, _, _, _, _, false, rfl, .own C, ty_tup sq, PC.kt, false, rfl, q⟩
end
end SQ

set_option Elab.async false
set_option linter.all false
set_option maxRecDepth 100000
set_option maxHeartbeats 4000000
namespace SQ
open PySem PySem.Spec PyProof.Rows L2
section
variable {P : Program} {w : World} {K : PySem.W.Frag} {mg : Str → Option Value} {base : Heap}
abbrev NSpace__str__ : List Str := ["self", "behind"]
theorem scSpace__str__ : FnScope NSpace__str__ ["self"] (defScope sSpace__str__) := ⟨rfl, rfl, rfl, by decide +kernel, rfl, by decide +kernel, by decide +kernel⟩
theorem ok_Space__str__ {f : Addr} {fd : FuncData} (F : Fun K "__str__" "Space.__str__" sSpace__str__ f fd) (T : Nm mg) {C : Addr} (PC : SpC K mg C) : FnOk P w K mg base CX0 1 f fd ["self"] (spStr C) := by
  have nd := scSpace__str__.nd
  refine F.ok scSpace__str__ (fun vs H Q E h => ?_) (fun cdv A outer s H vs Q E hr h => ?_)
  · obtain ⟨p, m, b, rfl, sp, q⟩ := h
    rfl
  · obtain ⟨p, m, b, rfl, sp, q⟩ := h
    skip
    refine ⟨_, (pss_cons (ps_set (i := 1) nd rfl (Or.inl rfl) (pe_ifExp (pt_val (pe_fld (pv 0) rfl)) pe_str pe_str))
  (pss_one (ps_ret (pe_joined (.cons (pe_fmt (pe_fld (pv 0) rfl)) (.cons pe_str (.cons (pe_fmt (pe_fld (pv 0) rfl)) (.cons pe_str (.cons (pe_fmt (pv 1)) .nil))))))))), ?_⟩

    obtain ⟨⟨m1, m3⟩, dx, e⟩ := sp
    have three : m = 1 ∨ m = 2 ∨ m = 3 := by omega
    have h : ∀ {z w : Str}, w = z → Q (.str w) H → Q (.str z) H := fun e h => e ▸ h
    have z : sizeLine = 16777216 := sizeLine_eq
    rcases three with rfl | rfl | rfl <;> cases b
    all_goals
      refine ⟨_, rfl, p, C, dx, _, _, rfl, e, PC.cl, PC.a2, lk2, _, rfl, ?_⟩
      first | refine iteT ?_ | refine iteF ?_
      refine ⟨_, rfl, p, C, dx, _, _, rfl, e, PC.cl, PC.a4, lk4, .inr ⟨_, rfl, by decide +kernel, _, rfl, by decide +kernel, ?_⟩⟩
      refine ⟨_, rfl, by decide +kernel, ?_⟩
      refine ⟨_, rfl, p, C, dx, _, _, rfl, e, PC.cl, PC.a1, lk1, .inr ⟨_, rfl, by decide +kernel, _, rfl, by decide +kernel, ?_⟩⟩
      refine ⟨_, rfl, by decide +kernel, ?_⟩
      refine ⟨_, rfl, .inl ⟨_, rfl, by decide +kernel, _, rfl, by decide +kernel, ?_⟩⟩
      exact h (by decide +kernel) q
end
end SQ

set_option Elab.async false
set_option linter.all false
set_option maxRecDepth 100000
set_option maxHeartbeats 4000000
namespace SQ
open PySem PySem.Spec PyProof.Rows L2
section
variable {P : Program} {w : World} {K : PySem.W.Frag} {mg : Str → Option Value} {base : Heap}
abbrev NSpaceis_table : List Str := ["self", "value"]
theorem scSpaceis_table : FnScope NSpaceis_table ["self", "value"] (defScope sSpaceis_table) := ⟨rfl, rfl, rfl, by decide +kernel, rfl, by decide +kernel, by decide +kernel⟩
theorem ok_Spaceis_table {f : Addr} {fd : FuncData} (F : Fun K "is_table" "Space.is_table" sSpaceis_table f fd) (T : Nm mg) {C : Addr} (PC : SpC K mg C) (Care_integers_below : Cal P w K mg base 1 "are_integers_below" ["values", "limit"] (spBelow K)) : FnOk P w K mg base CX0 4 f fd ["self", "value"] (spIsTbl C K) := by
  have nd := scSpaceis_table.nd
  refine F.ok scSpaceis_table (fun vs H Q E h => ?_) (fun cdv A outer s H vs Q E hr h => ?_)
  · obtain ⟨p, m, b, v, rfl, sp, q⟩ := h
    rfl
  · obtain ⟨p, m, b, v, rfl, sp, q⟩ := h
    skip
    refine ⟨_, (pss_one (ps_ret (pe_and (pe_callB call_isi (by rfl) T.b_isinstance (by decide +kernel) (pa_cons (pv 1) (pa_cons (pe_bltn (v := .ty "tuple") (by rfl) T.b_tuple (by decide +kernel) rfl) pa_nil))) (pe_and (pe_cmpR op_eq (pe_callB call_len (by rfl) T.b_len PySem.boot_len (pa_cons (pv 1) pa_nil)) (pe_fld (pv 0) rfl) (nomark _)) (pe_one (pe_own Care_integers_below (hr.mono (by decide)) (by rfl) (pa_cons (pv 1) (pa_cons (pe_fld (pv 0) rfl) pa_nil)))))))), ?_⟩

    obtain ⟨mm, dx, e⟩ := sp
    rcases q with ⟨t, xs, rfl, sq, at', few, q⟩ | ⟨no, q⟩
    · refine ⟨_, rfl, _, _, _, _, true, rfl, .ty "tuple", ty_tup sq, kit_ty (by decide +kernel), true, rfl, ?_⟩
      refine ⟨_, rfl, _, _, rfl, .inr ⟨_, sq, rfl⟩, _, rfl, p, C, dx, _, _, rfl, e, PC.cl, PC.a4, lk4, rfl, _, rfl, ?_⟩
      rw [int_dec]
      by_cases hl : xs.length = 2 ^ (m * en m b)
      · rw [decide_eq_true hl]
        refine iteT ?_
        refine ⟨_, rfl, _, rfl, p, C, dx, _, _, rfl, e, PC.cl, PC.a4, lk4, t, xs, 2 ^ (m * en m b), rfl, sq, at', few, fun H1 s1 => ?_⟩
        have := q H1 s1
        rw [decide_eq_true hl, Bool.true_and] at this
        exact this
      · rw [decide_eq_false hl]
        have := q H Same.rfl
        rw [decide_eq_false hl] at this
        exact this
    · have ty : ∃ t, TyX K H v t ∧ PySem.W.kitOne K t (.type "tuple") = some false := by
        cases no with
        | non => exact ⟨_, .base .non, kit_ty (show kitB "NoneType" "tuple" = some false by decide +kernel)⟩
        | int i => exact ⟨_, .base (.int i), kit_ty (show kitB "int" "tuple" = some false by decide +kernel)⟩
        | lst e => exact ⟨_, .base (.lst e), kit_ty (show kitB "list" "tuple" = some false by decide +kernel)⟩
        | dct e => exact ⟨_, .base (.dK e), kit_ty (show kitB "dict" "tuple" = some false by decide +kernel)⟩
      obtain ⟨t, ty, kt⟩ := ty
      exact ⟨_, rfl, _, _, _, _, false, rfl, .ty "tuple", ty, kt, false, rfl, q⟩
end
end SQ

set_option Elab.async false
set_option linter.all false
set_option maxRecDepth 100000
set_option maxHeartbeats 4000000
namespace SQ
open PySem PySem.Spec PyProof.Rows L2
section
variable {P : Program} {w : World} {K : PySem.W.Frag} {mg : Str → Option Value} {base : Heap}
abbrev NSpace_check_table : List Str := ["self", "value"]
theorem scSpace_check_table : FnScope NSpace_check_table ["self", "value"] (defScope sSpace_check_table) := ⟨rfl, rfl, rfl, by decide +kernel, rfl, by decide +kernel, by decide +kernel⟩
theorem ok_Space_check_table {f : Addr} {fd : FuncData} (F : Fun K "_check_table" "Space._check_table" sSpace_check_table f fd) (T : Nm mg) {C : Addr} (PC : SpC K mg C) (Mist : MCal P w K mg base C 4 "is_table" ["self", "value"] (spIsTbl C K)) : FnOk P w K mg base CX0 5 f fd ["self", "value"] (spChkTbl C K) := by
  have nd := scSpace_check_table.nd
  refine F.ok scSpace_check_table (fun vs H Q E h => ?_) (fun cdv A outer s H vs Q E hr h => ?_)
  · obtain ⟨p, t, m, b, xs, rfl, sp, tb, q⟩ := h
    rfl
  · obtain ⟨p, t, m, b, xs, rfl, sp, tb, q⟩ := h
    skip
    refine ⟨_, (pss_one (ps_if (pt_not (pt_val (pe_ownM Mist PC.cl (hr.mono (by decide)) (pv 0) (pa_cons (pv 1) pa_nil))))
  (pss_one ps_never)
  pss_nil)), ?_⟩

    obtain ⟨mm, dx, e⟩ := sp
    refine ⟨_, rfl, p, dx, _, rfl, e, noF, _, rfl, p, m, b, .ref t, rfl, ⟨mm, dx, e⟩, .inl ⟨t, _, rfl, tb.sq, tb_atm, ?_, fun H' s' => ?_⟩⟩
    · rw [List.length_map, tb.len]
      exact Nat.le_trans (size_le mm) (by decide)
    · rw [List.length_map, tb.len, decide_eq_true rfl, tb_all tb.lt]
      exact ⟨_, rfl, iteF (q H' s')⟩
end
end SQ

set_option Elab.async false
set_option linter.all false
set_option maxRecDepth 100000
set_option maxHeartbeats 4000000
namespace SQ
open PySem PySem.Spec PyProof.Rows L2
section
variable {P : Program} {w : World} {K : PySem.W.Frag} {mg : Str → Option Value} {base : Heap}
abbrev NSpacecomposed : List Str := ["self", "one", "other", "relation"]
theorem scSpacecomposed : FnScope NSpacecomposed ["self", "one", "other"] (defScope sSpacecomposed) := ⟨rfl, rfl, rfl, by decide +kernel, rfl, by decide +kernel, by decide +kernel⟩
theorem ok_Spacecomposed {f : Addr} {fd : FuncData} (F : Fun K "composed" "Space.composed" sSpacecomposed f fd) (T : Nm mg) {C : Addr} (PC : SpC K mg C) (Mchkt : MCal P w K mg base C 5 "_check_table" ["self", "value"] (spChkTbl C K)) : FnOk P w K mg base CX0 6 f fd ["self", "one", "other"] (spComp C K) := by
  have nd := scSpacecomposed.nd
  refine F.ok scSpacecomposed (fun vs H Q E h => ?_) (fun cdv A outer s H vs Q E hr h => ?_)
  · obtain ⟨p, t, u, m, b, xs, ys, rfl, sp, tb1, tb2, q⟩ := h
    rfl
  · obtain ⟨p, t, u, m, b, xs, ys, rfl, sp, tb1, tb2, q⟩ := h
    skip
    refine ⟨_, (pss_cons (ps_expr (pe_ownM Mchkt PC.cl (hr.mono (by decide)) (pv 0) (pa_cons (pv 1) pa_nil)))
  (pss_cons (ps_expr (pe_ownM Mchkt PC.cl (hr.mono (by decide)) (pv 0) (pa_cons (pv 2) pa_nil)))
  (pss_one (ps_ret (pe_callTy call_tuple_of (by rfl) T.b_tuple (by decide +kernel) (pa_cons (pe_lc (own := [("relation", 3)]) (g := gName 3) (tt := tYes) rfl nd (pi_tup (pv 2)) (blkOk_by (own := [("relation", 3)]) (N := NSpacecomposed) (sc := defScope sSpacecomposed) (by decide +kernel)) (fun _ _ _ _ _ => (pg_name (i := 3) nd rfl (Or.inl rfl))) (fun _ _ _ _ _ => pts_nil) (fun _ _ _ _ _ => (pe_ix (ix_tupK (K := K) rfl) (pv 1) (pv 3) (fun _ _ => rfl)))) pa_nil)))))), ?_⟩

    obtain ⟨mm, dx, e⟩ := sp
    refine ⟨_, rfl, p, dx, _, rfl, e, noF, _, rfl, p, t, m, b, xs, rfl, ⟨mm, dx, e⟩, tb1, fun H1 s1 => ?_⟩
    refine ⟨_, rfl, p, dx, _, rfl, s1 _ _ e, noF, _, rfl, p, u, m, b, ys, rfl, ⟨mm, dx, s1 _ _ e⟩, tb2.same s1, fun H2 s2 => ?_⟩
    have s12 := s1.trans s2
    have szl := size_le (b := b) mm
    refine ⟨_, rfl, u, rfl, ⟨_, (tb2.same s12).sq⟩, fun D nD => ?_⟩
    refine lcT (xs := tbV ys) ys (fun n : Nat => .int (n : Int)) (fun _ => true) (fun n y _ => y = .int (tf xs n : Nat)) rfl (Rg.same nD) (fun H' s => (tb2.same (s12.trans s)).sq) (fun _ _ _ _ _ _ h => h) (fun _ _ _ _ _ _ h => h) (by rw [tb2.len]; omega) (fun n H3 Ok No hn s3 _ ok _ => ?_) (fun H3 zs s3 e3 al => ?_)
    · exact ⟨rfl, _, rfl, _, rfl, t, _, _, _, rfl, rfl, (tb1.same (s12.trans s3)).sq, atI_nat (tb1.at (tb2.lt n hn)).1, ok rfl _ _ Same.rfl rfl⟩
    · have e2 := (al.mono (Ψ := fun (n : Nat) y => y = V.int (tf xs n : Nat)) fun _ _ h => h).map
      rw [List.filter_eq_self.mpr (fun _ _ => rfl)] at e2
      subst e2
      refine ⟨D, _, rfl, .inl ⟨.inl (.inl e3), fun l nl => ?_⟩⟩
      refine q _ l (s12.trans (s3.trans (same_upd nl))) ⟨?_, by rw [List.length_map, tb2.len], fun x hx => ?_⟩
      · rw [show tbV (ys.map (tf xs)) = ys.map fun n => V.int (tf xs n : Nat) by show (ys.map (tf xs)).map _ = _; rw [List.map_map]; rfl]
        exact tupT upd_same
      · obtain ⟨n, hn, rfl⟩ := List.mem_map.mp hx
        exact (tb1.at (tb2.lt n hn)).2
end
end SQ

set_option Elab.async false
set_option linter.all false
set_option maxRecDepth 100000
set_option maxHeartbeats 4000000
namespace SQ
open PySem PySem.Spec PyProof.Rows L2
section
variable {P : Program} {w : World} {K : PySem.W.Frag} {mg : Str → Option Value} {base : Heap}
abbrev NSpaceis_monotone : List Str := ["self", "table"]
theorem scSpaceis_monotone : FnScope NSpaceis_monotone ["self", "table"] (defScope sSpaceis_monotone) := ⟨rfl, rfl, rfl, by decide +kernel, rfl, by decide +kernel, by decide +kernel⟩
theorem ok_Spaceis_monotone {f : Addr} {fd : FuncData} (F : Fun K "is_monotone" "Space.is_monotone" sSpaceis_monotone f fd) (T : Nm mg) {C : Addr} (PC : SpC K mg C) (Mchkt : MCal P w K mg base C 5 "_check_table" ["self", "value"] (spChkTbl C K)) (Cis_growing : Cal P w K mg base 1 "is_growing" ["table", "bits"] (spGrow K)) : FnOk P w K mg base CX0 6 f fd ["self", "table"] (spMono C K) := by
  have nd := scSpaceis_monotone.nd
  refine F.ok scSpaceis_monotone (fun vs H Q E h => ?_) (fun cdv A outer s H vs Q E hr h => ?_)
  · obtain ⟨p, t, m, b, xs, rfl, sp, tb, q⟩ := h
    rfl
  · obtain ⟨p, t, m, b, xs, rfl, sp, tb, q⟩ := h
    skip
    refine ⟨_, (pss_cons (ps_expr (pe_ownM Mchkt PC.cl (hr.mono (by decide)) (pv 0) (pa_cons (pv 1) pa_nil)))
  (pss_one (ps_ret (pe_own Cis_growing (hr.mono (by decide)) (by rfl) (pa_cons (pv 1) (pa_cons (pe_op op_mulN (pe_fld (pv 0) rfl) (pe_fld (pv 0) rfl)) pa_nil)))))), ?_⟩

    obtain ⟨mm, dx, e⟩ := sp
    have big := men_le (b := b) mm
    refine ⟨_, rfl, p, dx, _, rfl, e, noF, _, rfl, p, t, m, b, xs, rfl, ⟨mm, dx, e⟩, tb, fun H1 s1 => ?_⟩
    exact ⟨_, rfl, _, rfl, p, C, dx, _, _, rfl, s1 _ _ e, PC.cl, PC.a1, lk1, _, rfl, p, C, dx, _, _, rfl, s1 _ _ e, PC.cl, PC.a3, lk3, m, en m b, rfl, rfl, by omega, t, m * en m b, xs, rfl, tb.same s1, big, fun H2 s2 => q H2 (s1.trans s2)⟩
end
end SQ

set_option Elab.async false
set_option linter.all false
set_option maxRecDepth 100000
set_option maxHeartbeats 4000000
namespace SQ
open PySem PySem.Spec PyProof.Rows L2
section
variable {P : Program} {w : World} {K : PySem.W.Frag} {mg : Str → Option Value} {base : Heap}
abbrev N_law_urn : List Str := ["_law_script", "_law_at", "_law_cell", "_law_great", "_law_seed"]
theorem sc_law_urn : FnScope N_law_urn ["_law_script", "_law_at"] (defScope s_law_urn) := ⟨rfl, rfl, rfl, by decide +kernel, rfl, by decide +kernel, by decide +kernel⟩
theorem ok_l_urn {f : Addr} {fd : FuncData} (F : Fun K "_law_urn" "_law_urn" s_law_urn f fd) (T : Nm mg) : FnOk P w K mg base CX0 1 f fd ["_law_script", "_law_at"] (spUrn K) := by
  have nd := sc_law_urn.nd
  refine F.ok sc_law_urn (fun vs H Q E h => ?_) (fun cdv A outer s H vs Q E hr h => ?_)
  · obtain ⟨a, ns, i, rfl, sq, hi, q⟩ := h
    rfl
  · obtain ⟨a, ns, i, rfl, sq, hi, q⟩ := h
    skip
    refine ⟨_, (pss_cons (ps_set (i := 2) nd rfl (Or.inl rfl) (pe_ifExp (pt_cmpR op_lt (pv 1) (pe_callB call_len (by rfl) T.b_len PySem.boot_len (pa_cons (pv 0) pa_nil)) (nomark _)) (pe_ix ix_list (pv 0) (pv 1) (fun _ _ => rfl)) (pe_op op_add (pe_op op_mul pe_int (pv 1)) pe_int)))
  (pss_cons (ps_set (i := 3) nd rfl (Or.inl rfl) (pe_op op_mod (pe_callTy call_int1 (by rfl) T.b_int (by decide +kernel) (pa_cons (pe_callB call_abs (by rfl) T.b_abs (by decide +kernel) (pa_cons (pv 2) pa_nil)) pa_nil)) (pe_op op_powW (pe_op op_pow pe_int pe_int) pe_int)))
  (pss_cons (ps_set (i := 4) nd rfl (Or.inl rfl) (pe_op op_mod (pe_callTy call_int1 (by rfl) T.b_int (by decide +kernel) (pa_cons (pe_op op_add (pe_op op_add (pe_op op_add (pe_op op_mul (pv 3) pe_int) (pe_op op_mul pe_int (pv 1))) (pe_op op_mul pe_int (pe_callTy call_int1 (by rfl) T.b_int (by decide +kernel) (pa_cons (pe_cmpR op_lt (pv 2) pe_int (nomark _)) pa_nil)))) pe_int) pa_nil)) pe_int))
  (pss_one (ps_ret (pe_lst (pa_cons (pe_callB (call_max2 rfl) (by rfl) T.b_max (by decide +kernel) (pa_cons pe_int (pa_cons (pe_op op_sub (pv 3) (pe_op op_pow pe_int pe_int)) pa_nil))) (pa_cons (pv 4) (pa_cons pe_int pa_nil))))))))), ?_⟩

    refine ⟨_, rfl, _, rfl, _, _, rfl, .inl ⟨_, sq, rfl⟩, _, _, rfl, rfl, _, rfl, ite2 (fun e => ?A) (fun _ => ?B)⟩
    case' A =>
      have hl : i < ns.length := by
        have e1 := of_decide_eq_true e
        rw [List.length_map] at e1
        omega
      have g : (ns.map V.int)[i]? = some (.int ns[i]) := by
        rw [List.getElem?_map, List.getElem?_eq_getElem hl]
        rfl
      refine ⟨_, rfl, _, rfl, a, _, (i : Int), _, rfl, rfl, sq, atI_nat g, ?_⟩
      generalize ns[i] = c
    case' B =>
      refine ⟨_, rfl, _, _, rfl, rfl, .inl ⟨by decide, by decide⟩, _, _, rfl, rfl, ?_⟩
      generalize (83 : Int) * (i : Int) + 37 = c
    all_goals
      refine ⟨_, rfl, _, rfl, .inl ⟨_, rfl, ?_⟩⟩
      generalize (if c < 0 then -c else c) = c1
      refine ⟨_, _, rfl, rfl, ⟨by decide, by decide, by decide⟩, _, _, rfl, rfl, ⟨by decide, by decide +kernel⟩, ?_⟩
      refine ⟨_, _, rfl, rfl, Int.pow_pos (Int.pow_pos (by decide)), ?_⟩
      generalize c1 % _ = c2
      refine ⟨_, rfl, _, _, rfl, rfl, .inr ⟨by decide, by decide⟩, ?_⟩
      refine ⟨_, rfl, _, _, rfl, rfl, .inl ⟨by decide, by decide⟩, ?_⟩
      refine ⟨_, _, rfl, rfl, ?_⟩
      refine ⟨_, rfl, _, _, rfl, rfl, .inr ⟨_, rfl, ?_⟩⟩
      refine ⟨_, _, rfl, rfl, .inl ⟨by decide, by decide⟩, _, _, rfl, rfl, _, _, rfl, rfl, .inl ⟨_, rfl, ?_⟩⟩
      refine ⟨_, _, rfl, rfl, (by show (0:Int) < 2305843009213693921; decide), ?_⟩
      refine ⟨_, rfl, _, _, rfl, rfl, ⟨by decide, by decide, by decide⟩, ?_⟩
      refine ⟨_, _, rfl, rfl, _, _, rfl, ?_⟩
      refine ⟨_, rfl, ?_⟩
      refine ⟨(by show 3 ≤ sizeLine; decide), fun p hp => q _ p (same_upd hp) hp ⟨_, _, _, upd_same⟩⟩
end
end SQ

set_option Elab.async false
set_option linter.all false
set_option maxRecDepth 100000
set_option maxHeartbeats 4000000
namespace SQ
open PySem PySem.Spec PyProof.Rows L2
section
variable {P : Program} {w : World} {K : PySem.W.Frag} {mg : Str → Option Value} {base : Heap}
abbrev N_law_take : List Str := ["_law_urn_here", "_law_total", "_law_found", "_law_one_here", "_law_two", "_law_three"]
theorem sc_law_take : FnScope N_law_take ["_law_urn_here", "_law_total"] (defScope s_law_take) := ⟨rfl, rfl, rfl, by decide +kernel, rfl, by decide +kernel, by decide +kernel⟩
theorem ok_l_take {f : Addr} {fd : FuncData} (F : Fun K "_law_take" "_law_take" s_law_take f fd) (T : Nm mg) : FnOk P w K mg base CX0 1 f fd ["_law_urn_here", "_law_total"] (spTake) := by
  have nd := sc_law_take.nd
  refine F.ok sc_law_take (fun vs H Q E h => ?_) (fun cdv A outer s H vs Q E hr h => ?_)
  · obtain ⟨a, n, rfl, ⟨x, y, z, hd⟩, n0, n1, q⟩ := h
    rfl
  · obtain ⟨a, n, rfl, ⟨x, y, z, hd⟩, n0, n1, q⟩ := h
    skip
    refine ⟨_, (pss_cons (ps_if (pt_cmpR op_gt (pe_ix ix_list (pv 0) pe_int (fun _ _ => rfl)) pe_int (nomark _))
  (pss_cons (ps_set (i := 2) nd rfl (Or.inl rfl) (pe_op op_mod (pe_callTy call_int1 (by rfl) T.b_int (by decide +kernel) (pa_cons (pe_ix ix_list (pv 0) pe_int (fun _ _ => rfl)) pa_nil)) (pv 1)))
  (pss_cons (ps_asg (pe_op op_fdiv (pe_ix ix_list (pv 0) pe_int (fun _ _ => rfl)) (pv 1)) (pg_sub (pv 0) pe_int L2.set_list))
  (pss_one (ps_ret (pv 2)))))
  pss_nil)
  (pss_cons (ps_asg (pe_op op_add (pe_ix ix_list (pv 0) pe_int (fun _ _ => rfl)) pe_int) (pg_sub (pv 0) pe_int L2.set_list))
  (pss_cons (ps_set (i := 3) nd rfl (Or.inl rfl) (pe_op op_mod (pe_callTy call_int1 (by rfl) T.b_int (by decide +kernel) (pa_cons (pe_op op_add (pe_ix ix_list (pv 0) pe_int (fun _ _ => rfl)) (pe_op op_mul pe_int (pe_ix ix_list (pv 0) pe_int (fun _ _ => rfl)))) pa_nil)) pe_int))
  (pss_cons (ps_set (i := 4) nd rfl (Or.inl rfl) (pe_op op_mod (pe_callTy call_int1 (by rfl) T.b_int (by decide +kernel) (pa_cons (pe_op op_add (pe_op op_mul (pv 3) (pv 3)) (pe_op op_mul pe_int (pe_ix ix_list (pv 0) pe_int (fun _ _ => rfl)))) pa_nil)) pe_int))
  (pss_cons (ps_set (i := 5) nd rfl (Or.inl rfl) (pe_op op_mod (pe_callTy call_int1 (by rfl) T.b_int (by decide +kernel) (pa_cons (pe_op op_add (pe_op op_mul (pv 4) (pv 4)) (pv 3)) pa_nil)) pe_int))
  (pss_one (ps_ret (pe_op op_mod (pe_callTy call_int1 (by rfl) T.b_int (by decide +kernel) (pa_cons (pe_op op_fdiv (pv 5) pe_int) pa_nil)) (pv 1))))))))), ?_⟩

    have sq : SqL K H a [.int x, .int y, .int z] := .inl (.inl hd)
    have n0' : (0 : Int) < (n : Int) := by omega
    have fin : ∀ (c : Int) (H' : Hp), Go a H H' → (∀ b, b ≠ a → H' b = H b) → Q (.int (c % (n : Int))) H' := fun c H' g f => by
      have h1 := Int.emod_nonneg c (show (n : Int) ≠ 0 by omega)
      have h2 := Int.emod_lt_of_pos c n0'
      obtain ⟨k, hk⟩ := Int.eq_ofNat_of_zero_le h1
      rw [hk] at h2 ⊢
      exact q k H' (by omega) g f
    -- urn[0] > 0
    refine ⟨_, rfl, a, _, 0, _, rfl, rfl, sq, at0, _, _, rfl, rfl, _, rfl, ite2 (fun _ => ?_) (fun _ => ?_)⟩
    · refine ⟨_, rfl, a, _, 0, _, rfl, rfl, sq, at0, .inl ⟨_, rfl, ?_⟩⟩
      refine ⟨_, rfl, _, _, rfl, rfl, n0', ?_⟩
      refine ⟨_, rfl, a, _, 0, _, rfl, rfl, sq, at0, _, rfl, _, _, rfl, rfl, ⟨n0', by omega⟩, ?_⟩
      refine ⟨_, rfl, a, _, 0, 0, rfl, rfl, hd, rfl, ?_⟩
      refine ⟨_, rfl, ?_⟩
      exact fin _ _ Go.put (fun b hb => upd_ne hb)
    · refine ⟨_, rfl, a, _, 2, _, rfl, rfl, sq, at2, _, _, rfl, rfl, _, rfl, a, _, 2, 2, rfl, rfl, hd, rfl, ?_⟩
      have sq2 : SqL K (upd H a (.lst [.int x, .int y, .int (z + 1)])) a [.int x, .int y, .int (z + 1)] := .inl (.inl upd_same)
      refine ⟨_, rfl, a, _, 1, _, rfl, rfl, sq2, at1, _, rfl, a, _, 2, _, rfl, rfl, sq2, at2, _, _, rfl, rfl, .inl (by decide), _, _, rfl, rfl, .inl ⟨_, rfl, ?_⟩⟩
      refine ⟨_, _, rfl, rfl, by show (0:Int) < 2305843009213693951; decide, ?_⟩
      have b1 : (0:Int) ≤ (y + 1299709 * (z + 1)) % 2305843009213693951 := Int.emod_nonneg _ (by decide)
      have b2 : (y + 1299709 * (z + 1)) % 2305843009213693951 < 2305843009213693951 := Int.emod_lt_of_pos _ (by decide)
      generalize (y + 1299709 * (z + 1)) % 2305843009213693951 = o at b1 b2 ⊢
      refine ⟨_, rfl, _, rfl, _, _, rfl, rfl, .inl ⟨by omega, by omega⟩, _, rfl, a, _, 2, _, rfl, rfl, sq2, at2, _, _, rfl, rfl, .inl (by decide), _, _, rfl, rfl, .inl ⟨_, rfl, ?_⟩⟩
      refine ⟨_, _, rfl, rfl, by show (0:Int) < 1000000000039; decide, ?_⟩
      have c1 := Int.emod_nonneg (o * o + 7919 * (z + 1)) (show (1000000000039 : Int) ≠ 0 by decide)
      have c2 := Int.emod_lt_of_pos (o * o + 7919 * (z + 1)) (show (0 : Int) < 1000000000039 by decide)
      generalize (o * o + 7919 * (z + 1)) % 1000000000039 = t at c1 c2 ⊢
      refine ⟨_, rfl, _, rfl, _, _, rfl, rfl, .inl ⟨by omega, by omega⟩, _, rfl, _, _, rfl, rfl, .inl ⟨_, rfl, ?_⟩⟩
      refine ⟨_, _, rfl, rfl, by show (0:Int) < 998244353; decide, ?_⟩
      refine ⟨_, rfl, _, _, rfl, rfl, by constructor <;> decide, .inl ⟨_, rfl, ?_⟩⟩
      refine ⟨_, rfl, _, _, rfl, rfl, n0', ?_⟩
      exact fin _ _ Go.put (fun b hb => upd_ne hb)
end
end SQ

set_option Elab.async false
set_option linter.all false
set_option maxRecDepth 100000
set_option maxHeartbeats 4000000
namespace SQ
open PySem PySem.Spec PyProof.Rows L2
section
variable {P : Program} {w : World} {K : PySem.W.Frag} {mg : Str → Option Value} {base : Heap}
abbrev N_law_one : List Str := ["_law_urn_here", "_law_items"]
theorem sc_law_one : FnScope N_law_one ["_law_urn_here", "_law_items"] (defScope s_law_one) := ⟨rfl, rfl, rfl, by decide +kernel, rfl, by decide +kernel, by decide +kernel⟩
theorem ok_l_one {f : Addr} {fd : FuncData} (F : Fun K "_law_one" "_law_one" s_law_one f fd) (T : Nm mg) (Cl_take : Cal P w K mg base 1 "_law_take" ["_law_urn_here", "_law_total"] spTake) : FnOk P w K mg base CX0 2 f fd ["_law_urn_here", "_law_items"] (spOne K) := by
  have nd := sc_law_one.nd
  refine F.ok sc_law_one (fun vs H Q E h => ?_) (fun cdv A outer s H vs Q E hr h => ?_)
  · obtain ⟨a, b, xs, di, rfl, sq, ne, nn, few, q⟩ := h
    rfl
  · obtain ⟨a, b, xs, di, rfl, sq, ne, nn, few, q⟩ := h
    skip
    refine ⟨_, (pss_one (ps_ret (pe_ix ix_list (pv 1) (pe_own Cl_take (hr.mono (by decide)) (by rfl) (pa_cons (pv 0) (pa_cons (pe_callB call_len (by rfl) T.b_len PySem.boot_len (pa_cons (pv 1) pa_nil)) pa_nil))) (fun _ _ => rfl)))), ?_⟩

    have hl : 0 < xs.length := List.length_pos_iff.mpr nn
    refine ⟨_, rfl, _, rfl, _, rfl, _, _, rfl, .inl ⟨_, sq, rfl⟩, a, _, rfl, di, hl, by omega, fun j H' hj g fr => ?_⟩
    refine ⟨b, xs, _, xs[j], rfl, rfl, g.seq ne sq, atI_nat (List.getElem?_eq_getElem hj), ?_⟩
    exact q _ _ (List.getElem_mem hj) g fr
end
end SQ

set_option Elab.async false
set_option linter.all false
set_option maxRecDepth 100000
set_option maxHeartbeats 4000000
namespace SQ
open PySem PySem.Spec PyProof.Rows L2
section
variable {P : Program} {w : World} {K : PySem.W.Frag} {mg : Str → Option Value} {base : Heap}
abbrev N_law_pairs : List Str := ["_law_ends_here", "_law_relation", "_law_found", "_law_rest", "_law_at", "_law_turn"]
theorem sc_law_pairs : FnScope N_law_pairs ["_law_ends_here", "_law_relation"] (defScope s_law_pairs) := ⟨rfl, rfl, rfl, by decide +kernel, rfl, by decide +kernel, by decide +kernel⟩
theorem ok_l_pairs {f : Addr} {fd : FuncData} (F : Fun K "_law_pairs" "_law_pairs" s_law_pairs f fd) (T : Nm mg) : FnOk P w K mg base CX0 1 f fd ["_law_ends_here", "_law_relation"] (spPairsL K) := by
  have nd := sc_law_pairs.nd
  refine F.ok sc_law_pairs (fun vs H Q E h => ?_) (fun cdv A outer s H vs Q E hr h => ?_)
  · obtain ⟨e, r, rfl, e1, e4, hr4, q⟩ := h
    rfl
  · obtain ⟨e, r, rfl, e1, e4, hr4, q⟩ := h
    skip
    refine ⟨_, (pss_cons (ps_par3 (i := 2) (j := 3) (l := 4) (by rfl) nd rfl rfl rfl (by decide) (by decide) (by decide) rfl rfl rfl (pa_cons (pe_lst pa_nil) (pa_cons (pv 1) (pa_cons pe_int pa_nil))) (by rfl))
  (pss_cons (ps_for PassesOwn.never rfl (pi_range1 rfl T.b_range (pa_cons pe_int pa_nil)) (pg_name (i := 5) nd rfl (Or.inl rfl))
  (pss_cons (ps_if (pt_cmpR op_eq (pe_op op_modNN (pv 3) pe_int) pe_int (nomark _))
  (pss_one (ps_expr (pe_bm PySem.F.plainAttrs_list PySem.F.slot_list_append PySem.F.type_list_append mt_append (pv 2) (pa_cons (pe_tup (pa_cons (pe_op op_fdivNN (pv 4) (pv 0)) (pa_cons (pe_op op_modNN (pv 4) (pv 0)) pa_nil))) pa_nil))))
  pss_nil)
  (pss_one (ps_par (i := 3) (j := 4) (by rfl) nd rfl rfl (by decide) rfl rfl (pa_cons (pe_op op_fdivNN (pv 3) pe_int) (pa_cons (pe_op op_addN (pv 4) pe_int) pa_nil)) (by rfl)))))
  (pss_one (ps_ret (pv 2))))), ?_⟩

    refine ⟨Nat.zero_le _, fun F nF => ?_⟩
    refine ⟨_, rfl, _, _, _, rfl, ?_⟩
    refine ⟨12, rfl, by decide, by decide, ?_⟩
    have s1 := same_upd (o := .lst []) nF
    refine for_rgN (n := 12) (fun i σ H' => ∃ t ks, σ = [some (.int (e : Int)), some (.int (r : Int)), some (.ref F), some (.int ((r / 2 ^ i : Nat) : Int)), some (.int (i : Int)), t] ∧ Same H H' ∧ H' F = some (.lst (refs ks)) ∧ Prs K H' ks ∧ prsOf ks = ((List.range i).filter fun b => r.testBit b).map fun b => (b / e, b % e)) ⟨none, [], ?_, s1, upd_same, Prs.nil, rfl⟩ (fun i σ H3 hi hp => ?_) (fun σ H3 hp => ?_)
    · show _ = [some (V.int (e : Int)), some (.int (r : Int)), some (.ref F), some (.int ((r / 2 ^ 0 : Nat) : Int)), some (.int 0), none]
      rw [Nat.pow_zero, Nat.div_one]
      rfl
    · obtain ⟨t, ks, rfl, s3, eF, pr, ek⟩ := hp
      have step : r / 2 ^ i / 2 = r / 2 ^ (i + 1) := by rw [Nat.div_div_eq_div_mul, Nat.pow_succ]
      have bit : r / 2 ^ i % 2 = (r.testBit i).toNat := by
        rw [← and_bit, Nat.and_one_is_mod]
      refine ⟨_, rfl, r / 2 ^ i, 2, rfl, rfl, by decide, rfl, _, rfl, ?_⟩
      rw [bit]
      have lk : (refs ks).length ≤ i := by
        have h1 : (prsOf ks).length = ks.length := List.length_map ..
        rw [ek, List.length_map] at h1
        have h2 := List.length_filter_le (fun b => r.testBit b) (List.range i)
        rw [List.length_range] at h2
        rw [show (refs ks).length = ks.length from List.length_map ..]
        omega
      cases hb : r.testBit i with
      | false =>
        rw [show decide (V.int ((false.toNat : Nat) : Int) = V.int 1) = false by decide]
        refine iteF ?_
        refine ⟨_, rfl, r / 2 ^ i, 2, rfl, rfl, ⟨by decide, by decide⟩, _, rfl, i, 1, rfl, rfl, _, _, rfl, ?_⟩
        rw [step]
        refine ⟨_, ks, rfl, s3, eF, pr, ?_⟩
        rw [ek, List.range_succ, List.filter_append, List.filter_cons_of_neg (by rw [hb]; decide)]
        rw [List.filter_nil, List.append_nil]
      | true =>
        rw [show decide (V.int ((true.toNat : Nat) : Int) = V.int 1) = true by decide]
        refine iteT ?_
        refine ⟨_, rfl, .inl ⟨rfl, _, .inl (.inl eF)⟩, _, rfl, _, rfl, i, e, rfl, rfl, ⟨e1, by omega⟩, _, rfl, _, rfl, i, e, rfl, rfl, e1, by show 2 ≤ sizeLine; decide, fun p np => ?_⟩
        have nFp : F ≠ p := ne_of_none eF np
        have eF2 : upd H3 p (.tup [.int ((i / e : Nat) : Int), .int ((i % e : Nat) : Int)]) F = some (.lst (refs ks)) := by
          rw [upd_ne nFp]
          exact eF
        have sp := same_upd (o := .tup [.int ((i / e : Nat) : Int), .int ((i % e : Nat) : Int)]) np
        have ep : upd H3 p (.tup [.int ((i / e : Nat) : Int), .int ((i % e : Nat) : Int)]) p = some (.tup [.int ((i / e : Nat) : Int), .int ((i % e : Nat) : Int)]) := upd_same
        generalize upd H3 p _ = H4 at eF2 sp ep ⊢
        refine ⟨F, refs ks, _, rfl, rfl, eF2, small1000 (by omega), ?_⟩
        refine ⟨_, rfl, r / 2 ^ i, 2, rfl, rfl, ⟨by decide, by decide⟩, _, rfl, i, 1, rfl, rfl, _, _, rfl, ?_⟩
        rw [step]
        have pr4 : Prs K (upd H4 F (.lst (refs ks ++ [V.ref p]))) (ks ++ [(p, (i / e, i % e))]) := by
          exact Prs.app (Prs.set (Prs.same pr sp) eF2) (Prs.one (sqT_set eF2 (tupT ep)))
        refine ⟨_, ks ++ [(p, (i / e, i % e))], rfl, Same.set (s3.trans sp) nF, ?_, pr4, ?_⟩
        · rw [upd_same, show refs (ks ++ [(p, (i / e, i % e))]) = refs ks ++ [V.ref p] by rw [show refs (ks ++ [(p, (i / e, i % e))]) = _ from List.map_append]; rfl]
        · rw [show prsOf (ks ++ [(p, (i / e, i % e))]) = prsOf ks ++ [(i / e, i % e)] from List.map_append, ek, List.range_succ, List.filter_append, List.filter_cons_of_pos hb, List.map_append]
          rfl
    · obtain ⟨t, ks, rfl, s3, eF, pr, ek⟩ := hp
      exact ⟨_, rfl, q H3 F ks s3 nF eF pr ek⟩
end
end SQ

set_option Elab.async false
set_option linter.all false
set_option maxRecDepth 100000
set_option maxHeartbeats 4000000
namespace SQ
open PySem PySem.Spec PyProof.Rows L2
section
variable {P : Program} {w : World} {K : PySem.W.Frag} {mg : Str → Option Value} {base : Heap}
abbrev N_law_bits : List Str := ["_law_ends_here", "_law_pairs_here", "_law_powers", "_law_mode", "_law_end"]
theorem sc_law_bits : FnScope N_law_bits ["_law_ends_here", "_law_pairs_here"] (defScope s_law_bits) := ⟨rfl, rfl, rfl, by decide +kernel, rfl, by decide +kernel, by decide +kernel⟩
theorem ok_l_bits {f : Addr} {fd : FuncData} (F : Fun K "_law_bits" "_law_bits" s_law_bits f fd) (T : Nm mg) : FnOk P w K mg base CX0 1 f fd ["_law_ends_here", "_law_pairs_here"] (spBits K) := by
  have nd := sc_law_bits.nd
  refine F.ok sc_law_bits (fun vs H Q E h => ?_) (fun cdv A outer s H vs Q E hr h => ?_)
  · obtain ⟨e, l, ks, rfl, e1, e4, sq, pr, few, sm, q⟩ := h
    rfl
  · obtain ⟨e, l, ks, rfl, e1, e4, sq, pr, few, sm, q⟩ := h
    skip
    refine ⟨_, (pss_cons (ps_set (i := 2) nd rfl (Or.inr rfl) (pe_tup (pa_cons pe_int (pa_cons pe_int (pa_cons pe_int (pa_cons pe_int (pa_cons pe_int (pa_cons pe_int (pa_cons pe_int (pa_cons pe_int (pa_cons pe_int (pa_cons pe_int (pa_cons pe_int (pa_cons pe_int pa_nil))))))))))))))
  (pss_one (ps_ret (pe_callB (cr_sum rfl) (by rfl) T.b_sum (by decide +kernel) (pa_cons (pe_lc (own := [("_law_mode", 3), ("_law_end", 4)]) (g := gTup K 2 (gCons (gName 3) (gCons (gName 4) gNil))) (tt := tYes) rfl nd (pi_list (pe_callB (cr_sortedT rfl) (by rfl) T.b_sorted (by decide +kernel) (pa_cons (pe_callTy (cr_setOfT rfl hr.units) (by rfl) T.b_set (by decide +kernel) (pa_cons (pv 1) pa_nil)) pa_nil))) (blkOk_by (own := [("_law_mode", 3), ("_law_end", 4)]) (N := N_law_bits) (sc := defScope s_law_bits) (by decide +kernel)) (fun _ _ _ _ _ => (pg_tup rfl (pgs_cons (pg_name (i := 3) nd rfl (Or.inl rfl)) (pgs_cons (pg_name (i := 4) nd rfl (Or.inl rfl)) pgs_nil)))) (fun _ _ _ _ _ => pts_nil) (fun _ _ _ _ _ => (pe_ix (ix_tupK (K := K) rfl) (pv 2) (pe_op op_addN (pe_op op_mulN (pv 3) (pv 0)) (pv 4)) (fun _ _ => rfl)))) pa_nil))))), ?_⟩

    refine ⟨by show 12 ≤ sizeLine; decide, fun pw npw => ?_⟩
    have s1 : Same H (upd H pw (.tup pows)) := same_upd npw
    have epw : upd H pw (.tup pows) pw = some (.tup pows) := upd_same
    have hh : upd H pw (.tup [.int 1, .int 2, .int 4, .int 8, .int 16, .int 32, .int 64, .int 128, .int 256, .int 512, .int 1024, .int 2048]) = upd H pw (.tup pows) := rfl
    rw [hh]
    generalize upd H pw (.tup pows) = H1 at s1 epw ⊢
    have pr1 := Prs.same pr s1
    refine ⟨_, rfl, l, ks.map ofPr, rfl, ?_, fun p hp => ?_, by rw [List.length_map]; exact few, fun a L na sub cov => ?_⟩
    · rw [List.map_map]
      exact Same.seq s1 sq
    · obtain ⟨x, hx, rfl⟩ := List.mem_map.mp hp
      exact pr1 x hx
    · obtain ⟨M, rfl, hM⟩ := ofPr_back sub
      have s2' := same_upd (o := SetTO P w a (M.map ofPr)) na
      have ea : upd H1 a (SetTO P w a (M.map ofPr)) a = some (SetTO P w a (M.map ofPr)) := upd_same
      refine (?_ : (fun (H2 : Hp) => Same H1 H2 → H2 a = some (SetTO P w a (M.map ofPr)) → tNil _ H2 _) (upd H1 a (SetTO P w a (M.map ofPr)))) s2' ea
      generalize upd H1 a (SetTO P w a (M.map ofPr)) = H2
      intro s2' ea
      have pr2 := Prs.same pr1 s2'
      refine ⟨a, M.map ofPr, 2, 64, rfl, ea, fun p hp => ?_, by decide, fun p hp => ?_, fun L' p pm nd' few' _ np => ?_⟩
      · obtain ⟨x, hx, rfl⟩ := List.mem_map.mp hp
        exact pr2 x (hM x hx)
      · obtain ⟨x, hx, rfl⟩ := List.mem_map.mp hp
        obtain ⟨h1, h2⟩ := sm x.2 (List.mem_map_of_mem (hM x hx))
        have h3 : x.2.1 ≤ x.2.1 * e := Nat.le_mul_of_pos_right _ e1
        have h4 : cd e x.2 = x.2.1 * e + x.2.2 := rfl
        refine ⟨rfl, fun m hm => ?_⟩
        rcases List.mem_cons.mp hm with rfl | hm
        · omega
        · cases List.mem_singleton.mp hm
          omega
      · obtain ⟨N, rfl, hN⟩ := ofPr_back (L := L') (ks := M) fun p hp => pm.mem_iff.mp hp
        have ndN := ofPr_nodup nd'
        have s3' := s2'.trans (same_upd (o := .lst ((N.map ofPr).map fun q => V.ref q.1)) np)
        have ep : upd H2 p (.lst ((N.map ofPr).map fun q => V.ref q.1)) p = some (.lst ((N.map ofPr).map fun q => V.ref q.1)) := upd_same
        generalize upd H2 p _ = H3 at s3' ep ⊢
        have pr3 := Prs.same pr1 s3'
        have lN : N.length < 64 := by
          rw [List.length_map] at few'
          exact few'
        refine ⟨p, rfl, ⟨_, .inl (.inl ep)⟩, fun D nD => ?_⟩
        refine lcL N (fun q => .ref q.1) (fun _ => true) (fun q y _ => y = .int ((2 ^ cd e q.2 : Nat) : Int)) (by rw [List.map_map]; rfl) (Rg.same nD) (fun H' s => Same.seq s (.inl (.inl ep))) (fun _ _ _ _ _ _ h => h) (fun _ _ _ _ _ _ h => h) (by omega) (fun x H4 Ok No hx s4 _ ok _ => ?_) (fun H4 ys s4 e4 al => ?_)
        · obtain ⟨h1, h2⟩ := sm x.2 (List.mem_map_of_mem (hM x (hN x hx)))
          have h3 : x.2.1 ≤ x.2.1 * e := Nat.le_mul_of_pos_right _ e1
          have h4 : cd e x.2 = x.2.1 * e + x.2.2 := rfl
          refine ⟨x.1, _, rfl, Same.sqT s4 (pr3 x (hM x (hN x hx))), rfl, _, _, rfl, _, _, rfl, rfl, ?_⟩
          refine ⟨rfl, _, rfl, _, rfl, _, rfl, x.2.1, e, rfl, rfl, by omega, ?_⟩
          refine ⟨_, rfl, _, x.2.2, rfl, rfl, ?_⟩
          exact ⟨pw, pows, _, _, rfl, rfl, tupT (s4 _ _ (s3' _ _ epw)), atI_nat (pows_at _ h2), ok rfl _ _ Same.rfl rfl⟩
        · have e5 := (al.mono (Ψ := fun (q : Addr × Pr) y => y = V.int ((2 ^ cd e q.2 : Nat) : Int)) fun _ _ h => h).map
          rw [List.filter_eq_self.mpr (fun _ _ => rfl)] at e5
          refine ⟨D, N.map fun q => ((2 ^ cd e q.2 : Nat) : Int), rfl, .inl (.inl ?_), ?_⟩
          · rw [e4, e5, List.map_map]
            rfl
          · have sm' : ∀ x ∈ prsOf N, x.1 < 12 ∧ x.2 < e := fun x hx => by
              obtain ⟨y, hy, rfl⟩ := List.mem_map.mp hx
              obtain ⟨h1, h2⟩ := sm y.2 (List.mem_map_of_mem (hM y (hN y hy)))
              have h3 : y.2.1 ≤ y.2.1 * e := Nat.le_mul_of_pos_right _ e1
              have h4 : cd e y.2 = y.2.1 * e + y.2.2 := rfl
              exact ⟨by omega, h1⟩
            have z : (N.map fun q => ((2 ^ cd e q.2 : Nat) : Int)).sum = ((bitsN e (prsOf N) : Nat) : Int) := bits_sum N (nodup_codes sm' ndN)
            have zz : bitsN e (prsOf N) = bitsN e (prsOf ks) := bits_mem fun x => by
              constructor
              · intro hx
                obtain ⟨y, hy, rfl⟩ := List.mem_map.mp hx
                exact List.mem_map_of_mem (hM y (hN y hy))
              · intro hx
                obtain ⟨y, hy, rfl⟩ := List.mem_map.mp hx
                have h1 := cov (ofPr y) (List.mem_map_of_mem hy)
                rw [← (pm.map (·.2)).mem_iff] at h1
                obtain ⟨p', hp', e6⟩ := List.mem_map.mp h1
                obtain ⟨y', hy', rfl⟩ := List.mem_map.mp hp'
                rw [← ofPr_snd _ _ e6]
                exact List.mem_map_of_mem hy'
            rw [z, zz]
            exact q H4 (s1.trans (s3'.trans s4))
end
end SQ

set_option Elab.async false
set_option linter.all false
set_option maxRecDepth 100000
set_option maxHeartbeats 4000000
namespace SQ
open PySem PySem.Spec PyProof.Rows L2
section
variable {P : Program} {w : World} {K : PySem.W.Frag} {mg : Str → Option Value} {base : Heap}
abbrev N_law_within : List Str := ["_law_one_here", "_law_other", "_law_pair"]
theorem sc_law_within : FnScope N_law_within ["_law_one_here", "_law_other"] (defScope s_law_within) := ⟨rfl, rfl, rfl, by decide +kernel, rfl, by decide +kernel, by decide +kernel⟩
theorem ok_l_within {f : Addr} {fd : FuncData} (F : Fun K "_law_within" "_law_within" s_law_within f fd) (T : Nm mg) : FnOk P w K mg base CX0 1 f fd ["_law_one_here", "_law_other"] (spWithin K) := by
  have nd := sc_law_within.nd
  refine F.ok sc_law_within (fun vs H Q E h => ?_) (fun cdv A outer s H vs Q E hr h => ?_)
  · obtain ⟨l1, l2, ks, ls, rfl, sq1, sq2, pr1, pr2, few1, few2, q⟩ := h
    rfl
  · obtain ⟨l1, l2, ks, ls, rfl, sq1, sq2, pr1, pr2, few1, few2, q⟩ := h
    skip
    refine ⟨_, (pss_one (ps_ret (pe_cmpR (op_eqD hr.units) (pe_lc (own := [("_law_pair", 2)]) (g := gName 2) rfl nd (pi_list (pv 0)) (blkOk_by (own := [("_law_pair", 2)]) (N := N_law_within) (sc := defScope s_law_within) (by decide +kernel)) (fun _ _ _ _ _ => (pg_name (i := 2) nd rfl (Or.inl rfl))) (fun _ _ _ _ _ => pts_one (pt_cmpR (op_notInLK (K := K) rfl (u65 hr)) (pv 2) (pv 1) (by rfl))) (fun _ _ _ _ _ => (pv 2))) (pe_lst pa_nil) (nomark _)))), ?_⟩

    have lk : (refs ks).length = ks.length := List.length_map ..
    have ll : (refs ls).length = ls.length := List.length_map ..
    refine ⟨_, rfl, l1, rfl, ⟨_, sq1⟩, fun D nD => ?_⟩
    refine lcL (xs := refs ks) ks (fun q => .ref q.1) (fun q => decide (q.2 ∉ prsOf ls)) (fun q y _ => y = .ref q.1) rfl (Rg.same nD) (fun H' s => Same.seq s sq1) (fun _ _ _ _ _ _ h => h) (fun _ _ _ _ _ _ h => h) (by omega) (fun x H1 Ok No hx s1 _ ok no => ?_) (fun H1 ys s1 e1 al => ?_)
    · refine ⟨rfl, _, rfl, _, rfl, prD x.2, (prsOf ls).map prD, dp_pr (Same.sqT s1 (pr1 x hx)), .lst (Same.seq s1 sq2) (dps_pr (Prs.same pr2 s1)), rfl, shaped_prs, ?_⟩
      rw [any_pr]
      refine ⟨_, rfl, ite2 (fun h => ?_) (fun h => ?_)⟩
      · refine ⟨_, rfl, ok ?_ _ _ Same.rfl rfl⟩
        rw [decide_not]
        exact h
      · refine no ?_ _ Same.rfl
        rw [decide_not]
        exact Bool.not_eq_true _ |>.mp h
    · have e2 := (al.mono (Ψ := fun (q : Addr × Pr) y => y = V.ref q.1) fun _ _ h => h).map
      refine ⟨Nat.zero_le _, fun z nz => ?_⟩
      have s2 := same_upd (o := .lst []) nz
      have pr2' : Prs K (upd H1 z (.lst [])) (ks.filter fun q => decide (q.2 ∉ prsOf ls)) := fun q hq => Same.sqT (s1.trans s2) (pr1 q ((List.mem_filter.mp hq).1))
      refine ⟨prsD (prsOf (ks.filter fun q => decide (q.2 ∉ prsOf ls))), .list [], .lst (.inl (.inl ?_)) (dps_pr pr2'), .lst (.inl (.inl upd_same)) .nil, shaped_prs, rfl, ?_⟩
      · rw [s2 _ _ e1, e2]
      · have e3 : prsOf (ks.filter fun q => decide (q.2 ∉ prsOf ls)) = (prsOf ks).filter fun p => decide (p ∉ prsOf ls) := by
          rw [show prsOf ks = ks.map (·.2) from rfl, List.filter_map]
          rfl
        have e4 : PyData.eqv (prsD (prsOf (ks.filter fun q => decide (q.2 ∉ prsOf ls)))) (.list []) = decide (((prsOf ks).filter fun p => decide (p ∉ prsOf ls)) = []) := by
          rw [← e3]
          exact eqv_prs _ []
        rw [e4]
        exact q _ (s1.trans s2)
end
end SQ

set_option Elab.async false
set_option linter.all false
set_option maxRecDepth 100000
set_option maxHeartbeats 4000000
namespace SQ
open PySem PySem.Spec PyProof.Rows L2
section
variable {P : Program} {w : World} {K : PySem.W.Frag} {mg : Str → Option Value} {base : Heap}
abbrev N_law_sizes : List Str := ["_law_modes", "_law_watched", "_law_ends_here"]
theorem sc_law_sizes : FnScope N_law_sizes ["_law_modes", "_law_watched"] (defScope s_law_sizes) := ⟨rfl, rfl, rfl, by decide +kernel, rfl, by decide +kernel, by decide +kernel⟩
theorem ok_l_sizes {f : Addr} {fd : FuncData} (F : Fun K "_law_sizes" "_law_sizes" s_law_sizes f fd) (T : Nm mg) : FnOk P w K mg base CX0 1 f fd ["_law_modes", "_law_watched"] (spSizes) := by
  have nd := sc_law_sizes.nd
  refine F.ok sc_law_sizes (fun vs H Q E h => ?_) (fun cdv A outer s H vs Q E hr h => ?_)
  · obtain ⟨m, b, rfl, m1, m3, q⟩ := h
    rfl
  · obtain ⟨m, b, rfl, m1, m3, q⟩ := h
    skip
    refine ⟨_, (pss_cons (ps_set (i := 2) nd rfl (Or.inl rfl) (pe_op op_addN (pv 0) (pe_callTy call_int1 (by rfl) T.b_int (by decide +kernel) (pa_cons (pv 1) pa_nil))))
  (pss_one (ps_ret (pe_lst (pa_cons (pv 2) (pa_cons (pe_ix ix_tup (pe_tup (pa_cons pe_int (pa_cons pe_int (pa_cons pe_int (pa_cons pe_int (pa_cons pe_int (pa_cons pe_int (pa_cons pe_int (pa_cons pe_int (pa_cons pe_int (pa_cons pe_int (pa_cons pe_int (pa_cons pe_int (pa_cons pe_int pa_nil)))))))))))))) (pe_op op_mulN (pv 0) (pv 2)) (fun _ _ => rfl)) pa_nil)))))), ?_⟩

    have three : m = 1 ∨ m = 2 ∨ m = 3 := by omega
    rcases three with rfl | rfl | rfl <;> cases b
    all_goals
      refine ⟨_, rfl, _, rfl, .inr ⟨_, rfl, ?_⟩⟩
      first | refine ⟨_, 1, rfl, rfl, ?_⟩ | refine ⟨_, 0, rfl, rfl, ?_⟩
      refine ⟨_, rfl, by decide, fun t nt => ?_⟩
      have s1 := same_upd (o := .tup [V.int 1, .int 2, .int 4, .int 8, .int 16, .int 32, .int 64, .int 128, .int 256, .int 512, .int 1024, .int 2048, .int 4096]) nt
      refine ⟨_, rfl, _, rfl, _, _, rfl, rfl, by decide, t, _, _, _, rfl, rfl, tupT upd_same, atI_nat (by rfl), by decide, fun l nl => ?_⟩
      refine q _ l (s1.trans (same_upd nl)) (Same.none s1 nl) upd_same
end
end SQ

set_option Elab.async false
set_option linter.all false
set_option maxRecDepth 100000
set_option maxHeartbeats 4000000
namespace SQ
open PySem PySem.Spec PyProof.Rows L2
section
variable {P : Program} {w : World} {K : PySem.W.Frag} {mg : Str → Option Value} {base : Heap}
abbrev N_law_is_monotone : List Str := ["_law_sizes_here", "_law_table_here", "_law_lists", "_law_one_here", "_law_other", "_law_relation"]
theorem sc_law_is_monotone : FnScope N_law_is_monotone ["_law_sizes_here", "_law_table_here"] (defScope s_law_is_monotone) := ⟨rfl, rfl, rfl, by decide +kernel, rfl, by decide +kernel, by decide +kernel⟩
theorem ok_l_is_monotone {f : Addr} {fd : FuncData} (F : Fun K "_law_is_monotone" "_law_is_monotone" s_law_is_monotone f fd) (T : Nm mg) (Cl_pairs : Cal P w K mg base 1 "_law_pairs" ["_law_ends_here", "_law_relation"] (spPairsL K)) (Cl_within : Cal P w K mg base 1 "_law_within" ["_law_one_here", "_law_other"] (spWithin K)) : FnOk P w K mg base CX0 2 f fd ["_law_sizes_here", "_law_table_here"] (spLMono K) := by
  have nd := sc_law_is_monotone.nd
  refine F.ok sc_law_is_monotone (fun vs H Q E h => ?_) (fun cdv A outer s H vs Q E hr h => ?_)
  · obtain ⟨Z, t, m, b, xs, rfl, sz, m1, m2, tb, q⟩ := h
    rfl
  · obtain ⟨Z, t, m, b, xs, rfl, sz, m1, m2, tb, q⟩ := h
    skip
    refine ⟨_, (pss_cons (ps_setLc (i := 2) (own := [("_law_relation", 5)]) (g := gName 5) (tt := tYes) rfl nd rfl rfl (sw_true rfl rfl rfl (by decide +kernel)) (pi_range1 rfl T.b_range (pa_cons (pe_ix ix_list (pv 0) pe_int (fun _ _ => rfl)) pa_nil)) (blkOk_by (own := [("_law_relation", 5)]) (N := N_law_is_monotone) (sc := defScope s_law_is_monotone) (by decide +kernel)) (fun _ _ _ _ _ => (pg_name (i := 5) nd rfl (Or.inl rfl))) (fun _ _ _ _ _ => pts_nil) (fun _ _ _ _ _ => (pe_own Cl_pairs (hr.mono (by decide)) (by rfl) (pa_cons (pe_ix (ix_listK (K := K) rfl) (pv 0) pe_int (fun _ _ => rfl)) (pa_cons (pv 5) pa_nil)))))
  (pss_cons (ps_for PassesOwn.never rfl (pi_range1 rfl T.b_range (pa_cons (pe_ix ix_list (pv 0) pe_int (fun _ _ => rfl)) pa_nil)) (pg_name (i := 3) nd rfl (Or.inl rfl))
  (pss_one (ps_for PassesOwn.never rfl (pi_range1 rfl T.b_range (pa_cons (pe_ix ix_list (pv 0) pe_int (fun _ _ => rfl)) pa_nil)) (pg_name (i := 4) nd rfl (Or.inl rfl))
  (pss_one (ps_if (PW.pt (pw_and (pt_val (pe_own Cl_within (hr.mono (by decide)) (by rfl) (pa_cons (pe_ix ix_list (pv 2) (pv 3) (fun _ _ => rfl)) (pa_cons (pe_ix ix_list (pv 2) (pv 4) (fun _ _ => rfl)) pa_nil)))) (pw_and1 (pt_not (pt_val (pe_own Cl_within (hr.mono (by decide)) (by rfl) (pa_cons (pe_ix ix_list (pv 2) (pe_ix ix_tup (pv 1) (pv 3) (fun _ _ => rfl)) (fun _ _ => rfl)) (pa_cons (pe_ix ix_list (pv 2) (pe_ix ix_tup (pv 1) (pv 4) (fun _ _ => rfl)) (fun _ _ => rfl)) pa_nil))))))))
  (pss_one (ps_ret pe_bl))
  pss_nil)))))
  (pss_one (ps_ret pe_bl)))), ?_⟩

    have mm : 1 ≤ m ∧ m ≤ 3 := ⟨m1, by omega⟩
    have szl := size_le (b := b) mm
    have enl := en_le (b := b) mm
    obtain ⟨N, hN⟩ : ∃ N, N = 2 ^ (m * en m b) := ⟨_, rfl⟩
    have zz : szL m b = [.int (en m b : Nat), .int (N : Int)] := by rw [hN]; rfl
    rw [← hN] at szl
    rw [zz] at sz
    refine ⟨_, rfl, Z, _, 1, _, rfl, rfl, sz, at1, _, rfl, by omega, by omega, fun D nD => ?_⟩
    refine lcR (n := N) (fun _ => true) (fun r y H' => LsAt K H' (en m b) r y ∧ y ≠ .ref D) (Rg.same nD) (fun r y Ha Hb _ s h => ⟨h.1.same s, h.2⟩) (fun r y Ha o _ hD h => ?_) (by omega) (fun r H1 Ok No hr s1 hD ok _ => ?_) (fun H1 ys s1 e1 al => ?_)
    · obtain ⟨⟨l, ks, rfl, q1, q2, q3⟩, n⟩ := h
      obtain ⟨zs, hD⟩ := hD
      have n' : l ≠ D := fun z => n (by rw [z])
      exact ⟨⟨l, ks, rfl, by rw [upd_ne n']; exact q1, Prs.set q2 hD, q3⟩, n⟩
    · refine ⟨rfl, _, rfl, Z, _, 0, _, rfl, rfl, Same.seq s1 sz, at0, _, rfl, _, r, rfl, enl.1, enl.2, by omega, fun H2 l ks s2 nl el pr ek => ok rfl _ _ s2 ⟨⟨l, ks, rfl, el, pr, ek⟩, fun z => ?_⟩⟩
      obtain ⟨zs, hD⟩ := hD
      rw [V.ref.inj z, hD] at nl
      cases nl
    have al2 : Al (fun r y => LsAt K H1 (en m b) r y) (List.range N) ys := by
      rw [List.filter_eq_self.mpr (fun _ _ => rfl)] at al
      exact al.mono fun _ _ h => h.1
    have get : ∀ {H'}, Same H1 H' → ∀ r, r < N → ∃ l ks, ys[r]? = some (.ref l) ∧ H' l = some (.lst (refs ks)) ∧ Prs K H' ks ∧ prsOf ks = prs (en m b) r := fun s r hr => by
      obtain ⟨y, h1, h2⟩ := al2.get (i := r) (m := r) (by rw [List.getElem?_range hr])
      obtain ⟨l, ks, rfl, q1, q2, q3⟩ := h2.same s
      exact ⟨l, ks, h1, q1, q2, q3⟩
    have wit : ∀ {r s : Nat} {ks ls : List (Addr × Pr)}, r < N → prsOf ks = prs (en m b) r → prsOf ls = prs (en m b) s → decide (((prsOf ks).filter fun p => decide (p ∉ prsOf ls)) = []) = inN r s := fun hr h1 h2 => by
      rw [h1, h2]
      exact decide_eq_decide.mpr (within_iff enl.1 (by omega))
    refine ⟨_, rfl, Z, _, 1, _, rfl, rfl, Same.seq s1 sz, at1, _, rfl, by omega, by omega, ?_⟩
    refine for_rgN (n := N) (fun i σ H' => (∃ t3 t4 t5, σ = [some (.ref Z), some (.ref t), some (.ref D), t3, t4, t5]) ∧ Same H1 H' ∧ ∀ r, r < i → ∀ s, s < N → (inN r s && !inN (tf xs r) (tf xs s)) = false) ⟨⟨_, _, _, rfl⟩, Same.rfl, fun r h => absurd h (Nat.not_lt_zero _)⟩ (fun i σ H2 hi hp => ?_) (fun σ H2 hp => ?_)
    · obtain ⟨⟨t3, t4, t5, rfl⟩, s2, hd⟩ := hp
      refine ⟨_, rfl, Z, _, 1, _, rfl, rfl, Same.seq (s1.trans s2) sz, at1, _, rfl, by omega, by omega, ?_⟩
      refine for_rgN (n := N) (fun j σ H' => (∃ t4 t5, σ = [some (.ref Z), some (.ref t), some (.ref D), some (.int (i : Int)), t4, t5]) ∧ Same H1 H' ∧ ∀ s, s < j → (inN i s && !inN (tf xs i) (tf xs s)) = false) ⟨⟨_, _, rfl⟩, s2, fun r h => absurd h (Nat.not_lt_zero _)⟩ (fun j σ H3 hj hp => ?_) (fun σ H3 hp => ?_)
      · obtain ⟨⟨t4, t5, rfl⟩, s3, hd2⟩ := hp
        obtain ⟨la, ka, ga, ea, pa, qa⟩ := get s3 i hi
        obtain ⟨lb, kb, gb, eb, pb, qb⟩ := get s3 j hj
        have fin : (inN i j && !inN (tf xs i) (tf xs j)) = false → ∀ s, s < j + 1 → (inN i s && !inN (tf xs i) (tf xs s)) = false := fun h s hs => by
          by_cases z : s = j
          · subst z
            exact h
          · exact hd2 s (by omega)
        refine ⟨_, rfl, _, rfl, D, ys, _, _, rfl, rfl, .inl (.inl (s3 _ _ e1)), atI_nat ga, _, rfl, _, rfl, D, ys, _, _, rfl, rfl, .inl (.inl (s3 _ _ e1)), atI_nat gb, la, lb, ka, kb, rfl, .inl (.inl ea), .inl (.inl eb), pa, pb, by have := prs_few qa; omega, by have := prs_few qb; omega, fun H4 s4 => ?_⟩
        rw [wit hi qa qb]
        have s34 := s3.trans s4
        refine ⟨_, rfl, ite2 (fun h => ?_) (fun h => ?_)⟩
        · have tb4 := tb.same (s1.trans s34)
          obtain ⟨a1, a2⟩ := tb4.at (r := i) (by omega)
          obtain ⟨b1, b2⟩ := tb4.at (r := j) (by omega)
          obtain ⟨lc, kc, gc, ec, pc, qc⟩ := get s34 (tf xs i) (by omega)
          obtain ⟨ld, kd', gd, ed, pd, qd⟩ := get s34 (tf xs j) (by omega)
          refine ⟨_, rfl, _, rfl, _, rfl, t, _, _, _, rfl, rfl, tb4.sq, atI_nat a1, D, ys, _, _, rfl, rfl, .inl (.inl (s34 _ _ e1)), atI_nat gc, _, rfl, _, rfl, _, rfl, t, _, _, _, rfl, rfl, tb4.sq, atI_nat b1, D, ys, _, _, rfl, rfl, .inl (.inl (s34 _ _ e1)), atI_nat gd, lc, ld, kc, kd', rfl, .inl (.inl ec), .inl (.inl ed), pc, pd, by have := prs_few qc; omega, by have := prs_few qd; omega, fun H5 s5 => ?_⟩
          rw [wit (by omega) qc qd]
          refine ⟨_, rfl, ?_⟩
          cases h2 : inN (tf xs i) (tf xs j) with
          | true => exact iteF ⟨⟨_, _, rfl⟩, s34.trans s5, fin (by rw [h2, Bool.not_true, Bool.and_false])⟩
          | false =>
            refine iteT ?_
            have z : monoA (m * en m b) (tf xs) = false := by
              refine Bool.eq_false_iff.mpr fun z => ?_
              unfold monoA at z
              rw [List.all_eq_true] at z
              have z2 := z i (List.mem_range.mpr (by omega))
              rw [List.all_eq_true] at z2
              have z3 := z2 j (List.mem_range.mpr (by omega))
              rw [h, h2] at z3
              cases z3
            have := q H5 (s1.trans (s34.trans s5))
            rw [z] at this
            exact this
        · exact ⟨⟨_, _, rfl⟩, s34, fin (by rw [Bool.not_eq_true _ |>.mp h, Bool.false_and])⟩
      · obtain ⟨⟨t4, t5, rfl⟩, s3, hd2⟩ := hp
        refine ⟨⟨_, _, _, rfl⟩, s3, fun r hr s hs => ?_⟩
        by_cases z : r = i
        · subst z
          exact hd2 s hs
        · exact hd r (by omega) s hs
    · obtain ⟨⟨t3, t4, t5, rfl⟩, s2, hd⟩ := hp
      have z : monoA (m * en m b) (tf xs) = true := by
        unfold monoA
        rw [List.all_eq_true]
        intro r hr
        rw [List.all_eq_true]
        intro s hs
        rw [hd r (by rw [hN]; exact List.mem_range.mp hr) s (by rw [hN]; exact List.mem_range.mp hs)]
        rfl
      have := q H2 (s1.trans s2)
      rw [z] at this
      exact this
end
end SQ

set_option Elab.async false
set_option linter.all false
set_option maxRecDepth 100000
set_option maxHeartbeats 4000000
namespace SQ
open PySem PySem.Spec PyProof.Rows L2
section
variable {P : Program} {w : World} {K : PySem.W.Frag} {mg : Str → Option Value} {base : Heap}
abbrev N_law_table : List Str := ["_law_urn_here", "_law_sizes_here", "_law_way", "_law_steps", "_law_found", "_law_relation", "_law_pairs_here", "_law_own", "_law_need", "_law_gives", "_law_turn"]
theorem sc_law_table : FnScope N_law_table ["_law_urn_here", "_law_sizes_here"] (defScope s_law_table) := ⟨rfl, rfl, rfl, by decide +kernel, rfl, by decide +kernel, by decide +kernel⟩
theorem ok_l_table {f : Addr} {fd : FuncData} (F : Fun K "_law_table" "_law_table" s_law_table f fd) (T : Nm mg) (Cl_take : Cal P w K mg base 1 "_law_take" ["_law_urn_here", "_law_total"] spTake) (Cl_pairs : Cal P w K mg base 1 "_law_pairs" ["_law_ends_here", "_law_relation"] (spPairsL K)) (Cl_bits : Cal P w K mg base 1 "_law_bits" ["_law_ends_here", "_law_pairs_here"] (spBits K)) (Cl_within : Cal P w K mg base 1 "_law_within" ["_law_one_here", "_law_other"] (spWithin K)) : FnOk P w K mg base CX0 2 f fd ["_law_urn_here", "_law_sizes_here"] (spTable K) := by
  have nd := sc_law_table.nd
  refine F.ok sc_law_table (fun vs H Q E h => ?_) (fun cdv A outer s H vs Q E hr h => ?_)
  · obtain ⟨a, Z, m, b, rfl, di, nZa, ez, m1, m2, q⟩ := h
    rfl
  · obtain ⟨a, Z, m, b, rfl, di, nZa, ez, m1, m2, q⟩ := h
    skip
    refine ⟨_, (pss_cons (ps_set (i := 2) nd rfl (Or.inl rfl) (pe_own Cl_take (hr.mono (by decide)) (by rfl) (pa_cons (pv 0) (pa_cons pe_int pa_nil))))
  (pss_cons (ps_if (pt_cmpR op_eq (pv 2) pe_int (nomark _))
  (pss_one (ps_ret (pe_callTy call_tuple_of (by rfl) T.b_tuple (by decide +kernel) (pa_cons (pe_lc (own := [("_law_relation", 5)]) (g := gName 5) (tt := tYes) rfl nd (pi_range1 rfl T.b_range (pa_cons (pe_ix ix_list (pv 1) pe_int (fun _ _ => rfl)) pa_nil)) (blkOk_by (own := [("_law_relation", 5)]) (N := N_law_table) (sc := defScope s_law_table) (by decide +kernel)) (fun _ _ _ _ _ => (pg_name (i := 5) nd rfl (Or.inl rfl))) (fun _ _ _ _ _ => pts_nil) (fun _ _ _ _ _ => (pe_own Cl_take (hr.mono (by decide)) (by rfl) (pa_cons (pv 0) (pa_cons (pe_ix (ix_listK (K := K) rfl) (pv 1) pe_int (fun _ _ => rfl)) pa_nil))))) pa_nil))))
  pss_nil)
  (pss_cons (ps_if (pt_cmpR op_eq (pv 2) pe_int (nomark _))
  (pss_one (ps_ret (pe_op op_repT (pe_tup (pa_cons (pe_own Cl_take (hr.mono (by decide)) (by rfl) (pa_cons (pv 0) (pa_cons (pe_ix ix_list (pv 1) pe_int (fun _ _ => rfl)) pa_nil))) pa_nil)) (pe_ix ix_list (pv 1) pe_int (fun _ _ => rfl)))))
  pss_nil)
  (pss_cons (ps_setLc (i := 3) (own := [("_law_turn", 10)]) (g := gName 10) (tt := tYes) rfl nd rfl rfl (sw_true rfl rfl rfl (by decide +kernel)) (pi_range1 rfl T.b_range (pa_cons (pe_op op_addN pe_int (pe_own Cl_take (hr.mono (by decide)) (by rfl) (pa_cons (pv 0) (pa_cons pe_int pa_nil)))) pa_nil)) (blkOk_by (own := [("_law_turn", 10)]) (N := N_law_table) (sc := defScope s_law_table) (by decide +kernel)) (fun _ _ _ _ _ => (pg_name (i := 10) nd rfl (Or.inl rfl))) (fun _ _ _ _ _ => pts_nil) (fun _ _ _ _ _ => (pe_tup (pa_cons (pe_own Cl_take (hr.mono (by decide)) (by rfl) (pa_cons (pv 0) (pa_cons (pe_ix (ix_listK (K := K) rfl) (pv 1) pe_int (fun _ _ => rfl)) pa_nil))) (pa_cons (pe_own Cl_take (hr.mono (by decide)) (by rfl) (pa_cons (pv 0) (pa_cons (pe_ix (ix_listK (K := K) rfl) (pv 1) pe_int (fun _ _ => rfl)) pa_nil))) pa_nil)))))
  (pss_cons (ps_set (i := 4) nd rfl (Or.inl rfl) (pe_lst pa_nil))
  (pss_cons (ps_for PassesOwn.never rfl (pi_range1 rfl T.b_range (pa_cons (pe_ix ix_list (pv 1) pe_int (fun _ _ => rfl)) pa_nil)) (pg_name (i := 5) nd rfl (Or.inl rfl))
  (pss_cons (ps_par (i := 6) (j := 7) (by rfl) nd rfl rfl (by decide) rfl rfl (pa_cons (pe_lst pa_nil) (pa_cons (pe_own Cl_pairs (hr.mono (by decide)) (by rfl) (pa_cons (pe_ix ix_list (pv 1) pe_int (fun _ _ => rfl)) (pa_cons (pv 5) pa_nil))) pa_nil)) (by rfl))
  (pss_cons (ps_for PassesOwn.never rfl (pi_list (pv 3)) (pg_tup rfl (pgs_cons (pg_name (i := 8) nd rfl (Or.inl rfl)) (pgs_cons (pg_name (i := 9) nd rfl (Or.inl rfl)) pgs_nil)))
  (pss_one (ps_if (pt_val (pe_own Cl_within (hr.mono (by decide)) (by rfl) (pa_cons (pe_own Cl_pairs (hr.mono (by decide)) (by rfl) (pa_cons (pe_ix ix_list (pv 1) pe_int (fun _ _ => rfl)) (pa_cons (pv 8) pa_nil))) (pa_cons (pv 7) pa_nil))))
  (pss_one (ps_expr (pe_bm PySem.F.plainAttrs_list PySem.F.slot_list_extend PySem.F.type_list_extend mt_extend (pv 6) (pa_cons (pe_own Cl_pairs (hr.mono (by decide)) (by rfl) (pa_cons (pe_ix ix_list (pv 1) pe_int (fun _ _ => rfl)) (pa_cons (pv 9) pa_nil))) pa_nil))))
  pss_nil)))
  (pss_one (ps_expr (pe_bm PySem.F.plainAttrs_list PySem.F.slot_list_append PySem.F.type_list_append mt_append (pv 4) (pa_cons (pe_own Cl_bits (hr.mono (by decide)) (by rfl) (pa_cons (pe_ix ix_list (pv 1) pe_int (fun _ _ => rfl)) (pa_cons (pv 6) pa_nil))) pa_nil)))))))
  (pss_cons (ps_if (pt_cmpR op_eq (pv 2) pe_int (nomark _))
  (pss_one (ps_asg (pe_own Cl_take (hr.mono (by decide)) (by rfl) (pa_cons (pv 0) (pa_cons (pe_ix ix_list (pv 1) pe_int (fun _ _ => rfl)) pa_nil))) (pg_sub (pv 4) (pe_own Cl_take (hr.mono (by decide)) (by rfl) (pa_cons (pv 0) (pa_cons (pe_ix ix_list (pv 1) pe_int (fun _ _ => rfl)) pa_nil))) L2.set_list)))
  pss_nil)
  (pss_one (ps_ret (pe_callTy call_tuple_of (by rfl) T.b_tuple (by decide +kernel) (pa_cons (pv 4) pa_nil))))))))))), ?_⟩

    have mm : 1 ≤ m ∧ m ≤ 3 := ⟨m1, by omega⟩
    have szl := size_le (b := b) mm
    have enl := en_le (b := b) mm
    have six := men6 (b := b) m1 m2
    obtain ⟨N, hN⟩ : ∃ N, N = 2 ^ (m * en m b) := ⟨_, rfl⟩
    have N64 : N ≤ 64 := by rw [hN]; exact Nat.pow_le_pow_right (n := 2) (by decide) six
    have N2 : 2 ≤ N := by rw [hN]; exact Nat.le_trans (by decide) (Nat.pow_le_pow_right (n := 2) (by decide) (show 1 ≤ m * en m b from Nat.mul_pos m1 enl.1))
    have zz : szL m b = [.int (en m b : Nat), .int (N : Int)] := by rw [hN]; rfl
    rw [zz] at ez
    have mk : ∀ {H' : Hp} {t : Addr} {xs : List Nat}, SqT K H' t (tbV xs) → xs.length = N → (∀ x ∈ xs, x < N) → Tb K H' t (m * en m b) xs := fun h1 h2 h3 => ⟨h1, by rw [← hN]; exact h2, by rw [← hN]; exact h3⟩
    refine ⟨_, rfl, a, 4, rfl, di, by decide, by decide, fun wy H1 hw g1 _ => ?_⟩
    have ez1 := g1.1 _ _ nZa ez
    refine ⟨_, rfl, rfl, _, rfl, ite2 (fun _ => ?_) (fun _ => ?_)⟩
    · refine ⟨_, rfl, Z, _, 1, _, rfl, rfl, .inl (.inl ez1), at1, _, rfl, by omega, by omega, fun D nD => ?_⟩
      refine lcR (n := N) (fun _ => true) (fun _ y _ => ∃ r : Nat, y = .int (r : Int) ∧ r < N) (Rg.go g1.2 nD) (fun _ _ _ _ _ _ h => h) (fun _ _ _ _ _ _ h => h) (by omega) (fun i H2 Ok No hi g2 _ ok _ => ?_) (fun H2 ys g2 e2 al => ?_)
      · exact ⟨rfl, _, rfl, _, rfl, Z, _, 1, _, rfl, rfl, .inl (.inl (g2.1 _ _ nZa ez1)), at1, a, _, rfl, g2.2, by omega, by omega, fun r H3 hr g3 _ => ok rfl _ _ g3 ⟨r, rfl, hr⟩⟩
      · obtain ⟨xs, rfl, hx⟩ := al_nat al
        have ln := al.len
        rw [List.filter_eq_self.mpr (fun _ _ => rfl), List.length_range, List.length_map] at ln
        refine ⟨D, _, rfl, .inl ⟨.inl (.inl e2), fun l nl => ?_⟩⟩
        exact q _ l xs ((g1.trans g2).then (same_upd nl)) (mk (tupT upd_same) ln hx)
    refine ⟨_, rfl, rfl, _, rfl, ite2 (fun _ => ?_) (fun _ => ?_)⟩
    · refine ⟨_, rfl, _, rfl, Z, _, 1, _, rfl, rfl, .inl (.inl ez1), at1, a, _, rfl, g1.2, by omega, by omega, fun r H2 hr g2 _ => ?_⟩
      refine ⟨by show 1 ≤ sizeLine; decide, fun t nt => ?_⟩
      generalize hX : upd H2 t _ = H3
      have s3 : Same H2 H3 := by
        rw [← hX]
        exact same_upd nt
      have e3 := (congrFun hX t).symm.trans upd_same
      clear hX
      have ez3 := s3 _ _ (g2.1 _ _ nZa ez1)
      refine ⟨_, rfl, Z, _, 1, _, rfl, rfl, .inl (.inl ez3), at1, t, _, _, rfl, rfl, tupT e3, List.cons_ne_nil _ _, by omega, by omega, by show 1 ≤ 1000; decide, fun p np => ?_⟩
      refine q _ p (List.replicate N r) (((g1.trans g2).then s3).then (same_upd np)) (mk (tupT ?_) (List.length_replicate ..) fun x hx => by rw [(List.mem_replicate.mp hx).2]; exact hr)
      rw [upd_same, rep_one, Int.toNat_natCast, show tbV (List.replicate N r) = List.replicate N (V.int (r : Int)) from List.map_replicate]
    -- the steps
    refine ⟨_, rfl, a, 4, rfl, g1.2, by decide, by decide, fun k H2 hk g2 _ => ?_⟩
    have ez2 := g2.1 _ _ nZa ez1
    have g02 := g1.trans g2
    refine ⟨1, k, rfl, rfl, _, rfl, by omega, by omega, fun Sd nS => ?_⟩
    have nSa := g02.2.ne nS
    refine lcR (n := 1 + k) (fun _ => true) (fun _ y H' => ∃ t n g, y = .ref t ∧ SqT K H' t (prV (n, g)) ∧ n < N ∧ g < N) (Rg.go g02.2 nS) (fun _ y Ha Hb g s h => ?_) (fun _ y Ha o _ hD h => ?_) (by omega) (fun i H3 Ok No hi g3 _ ok _ => ?_) (fun H3 ys g3 eS al => ?_)
    · obtain ⟨t, n, g', rfl, h, h1, h2⟩ := h
      exact ⟨t, n, g', rfl, Go.sqT g.2 s h, h1, h2⟩
    · obtain ⟨t, n, g', rfl, h, h1, h2⟩ := h
      obtain ⟨zs, hD⟩ := hD
      exact ⟨t, n, g', rfl, sqT_set hD h, h1, h2⟩
    · have ez3 := g3.1 _ _ nZa ez2
      refine ⟨rfl, _, rfl, _, rfl, Z, _, 1, _, rfl, rfl, .inl (.inl ez3), at1, a, _, rfl, g3.2, by omega, by omega, fun r1 H4 h1 g4 _ => ?_⟩
      refine ⟨_, rfl, _, rfl, Z, _, 1, _, rfl, rfl, .inl (.inl (g4.1 _ _ nZa ez3)), at1, a, _, rfl, g4.2, by omega, by omega, fun r2 H5 h2 g5 _ => ?_⟩
      refine ⟨by show 2 ≤ sizeLine; decide, fun t nt => ok rfl _ _ ((g4.trans g5).then (same_upd nt)) ⟨t, r1, r2, rfl, tupT upd_same, h1, h2⟩⟩
    rw [List.filter_eq_self.mpr (fun _ _ => rfl)] at al
    have ly : ys.length ≤ 4 := by
      rw [al.len, List.length_range]
      omega
    have g03 := g02.trans g3
    have ez3 := g3.1 _ _ nZa ez2
    clear g1 g2 g02 ez1 ez2
    -- found
    refine ⟨Nat.zero_le _, fun F nF => ?_⟩
    have nFa := g03.2.ne nF
    have nSF : Sd ≠ F := ne_of_none eS nF
    have nZF : Z ≠ F := ne_of_none ez3 nF
    have nF0 : H F = none := by
      cases e : H F with
      | none => rfl
      | some o =>
        rw [g03.1 _ _ nFa e] at nF
        cases nF
    refine ⟨_, rfl, Z, _, 1, _, rfl, rfl, .inl (.inl (by rw [upd_ne nZF]; exact ez3)), at1, _, rfl, by omega, by omega, ?_⟩
    let Inv1 : Hp → Prop := fun H' => Go a H H' ∧ H' Z = some (.lst [.int (en m b : Nat), .int (N : Int)]) ∧ H' Sd = some (.lst ys) ∧ Al (fun _ y => ∃ t n g, y = .ref t ∧ SqT K H' t (prV (n, g)) ∧ n < N ∧ g < N) (List.range (1 + k)) ys
    have inv_same : ∀ {H' H''}, Inv1 H' → Same H' H'' → Inv1 H'' := fun ⟨p1, p2, p3, p4⟩ s => ⟨p1.then s, s _ _ p2, s _ _ p3, p4.mono fun _ y ⟨t, n, g, e, h, h1, h2⟩ => ⟨t, n, g, e, Same.sqT s h, h1, h2⟩⟩
    have inv_set : ∀ {H' : Hp} {zs : List V} {o : HO}, H' F = some (.lst zs) → Inv1 H' → Inv1 (upd H' F o) := fun e ⟨p1, p2, p3, p4⟩ => ⟨go_set p1 nF0 nFa, by rw [upd_ne nZF]; exact p2, by rw [upd_ne nSF]; exact p3, p4.mono fun _ y ⟨t, n, g, e', h, h1, h2⟩ => ⟨t, n, g, e', sqT_set e h, h1, h2⟩⟩
    have i0 : Inv1 (upd H3 F (.lst [])) := inv_same ⟨g03, ez3, eS, al⟩ (same_upd nF)
    have f0 : upd H3 F (.lst []) F = some (.lst (tbV [])) := upd_same
    refine for_rgN (n := N) (fun i σ H' => (∃ t5 t6 t7 t8 t9, σ = [some (.ref a), some (.ref Z), some (.int (wy : Int)), some (.ref Sd), some (.ref F), t5, t6, t7, t8, t9, none]) ∧ Inv1 H' ∧ ∃ xs : List Nat, H' F = some (.lst (tbV xs)) ∧ xs.length = i ∧ ∀ x ∈ xs, x < N) ⟨⟨_, _, _, _, _, rfl⟩, i0, [], f0, rfl, fun x h => nomatch h⟩ (fun i σ H4 hi hp => ?_) (fun σ H4 hp => ?_)
    · obtain ⟨⟨t5, t6, t7, t8, t9, rfl⟩, i4, xs, eF, lx, hx⟩ := hp
      clear i0 f0 g03 ez3 eS al g3
      refine ⟨Nat.zero_le _, fun P nP => ?_⟩
      have s5 := same_upd (o := .lst []) nP
      have eP : upd H4 P (.lst []) P = some (.lst (refs [])) := upd_same
      generalize upd H4 P (.lst []) = H5 at s5 eP ⊢
      have i5 := inv_same i4 s5
      refine ⟨_, rfl, Z, _, 0, _, rfl, rfl, .inl (.inl i5.2.1), at0, _, rfl, _, i, rfl, enl.1, enl.2, by omega, fun H6 O kO s6 nO eO prO ekO => ?_⟩
      refine ⟨_, _, rfl, ?_⟩
      have nPO : P ≠ O := ne_of_none eP nO
      have i6 := inv_same i5 s6
      have eP6 := s6 _ _ eP
      have s46 := s5.trans s6
      refine ⟨_, rfl, Sd, rfl, ⟨_, .inl (.inl i6.2.2.1)⟩, ?_⟩
      refine for_list (xs := ys) (fun j σ H' => (∃ t8 t9, σ = [some (.ref a), some (.ref Z), some (.int (wy : Int)), some (.ref Sd), some (.ref F), some (.int (i : Int)), some (.ref P), some (.ref O), t8, t9, none]) ∧ Same H4 H' ∧ ∃ ps, H' P = some (.lst (refs ps)) ∧ Prs K H' ps ∧ ps.length ≤ 12 * j ∧ (∀ x ∈ prsOf ps, x.1 < m ∧ x.2 < en m b) ∧ H' O = some (.lst (refs kO)) ∧ Prs K H' kO) ⟨⟨_, _, rfl⟩, s46, [], eP6, Prs.nil, Nat.zero_le _, (fun x h => nomatch h), eO, prO⟩ (fun j σ H' _ hp => .inl (.inl (inv_same i4 hp.2.1).2.2.1)) (fun j y σ H7 hy hp => ?_) (fun σ H7 hp => ?_)
      · obtain ⟨⟨t8, t9, rfl⟩, s7, ps, eP7, prP, lP, smP, eO7, prO7⟩ := hp
        have i7 := inv_same i4 s7
        obtain ⟨_, t, n, g, rfl, sqt, hn, hg⟩ := i7.2.2.2.val hy
        have hj : j < ys.length := (List.getElem?_eq_some_iff.mp hy).1
        refine ⟨t, _, rfl, sqt, rfl, _, _, rfl, _, _, rfl, rfl, ?_⟩
        refine ⟨_, rfl, Z, _, 0, _, rfl, rfl, .inl (.inl i7.2.1), at0, _, rfl, _, n, rfl, enl.1, enl.2, by omega, fun H8 l8 k8 s8 n8 e8 pr8 ek8 => ?_⟩
        refine ⟨_, rfl, l8, O, k8, kO, rfl, .inl (.inl e8), .inl (.inl (s8 _ _ eO7)), pr8, Prs.same prO7 s8, by have := prs_few ek8; omega, by have := prs_few ekO; omega, fun H9 s9 => ?_⟩
        have s79 := s8.trans s9
        have eP9 := s79 _ _ eP7
        refine ⟨_, rfl, ite2 (fun _ => ?_) (fun _ => ?_)⟩
        · refine ⟨_, rfl, .inl ⟨rfl, _, .inl (.inl eP9)⟩, _, rfl, Z, _, 0, _, rfl, rfl, .inl (.inl (s79 _ _ i7.2.1)), at0, _, rfl, _, g, rfl, enl.1, enl.2, by omega, fun H10 l10 k10 s10 n10 e10 pr10 ek10 => ?_⟩
          have f10 := prs_few ek10
          refine ⟨P, l10, _, _, rfl, rfl, s10 _ _ eP9, e10, by rw [show (refs ps).length = ps.length from List.length_map .., show (refs k10).length = k10.length from List.length_map .., sizeLine_eq]; omega, ?_⟩
          have s710 := s79.trans s10
          refine ⟨⟨_, _, rfl⟩, Same.set (s7.trans s710) nP, ps ++ k10, ?_, Prs.set (Prs.app (Prs.same prP s710) pr10) (s10 _ _ eP9), by rw [List.length_append]; omega, fun x hx => ?_, ?_, Prs.set (Prs.same prO7 s710) (s10 _ _ eP9)⟩
          · rw [upd_same, show refs (ps ++ k10) = refs ps ++ refs k10 from List.map_append]
          · rw [show prsOf (ps ++ k10) = prsOf ps ++ prsOf k10 from List.map_append, List.mem_append] at hx
            rcases hx with hx | hx
            · exact smP x hx
            · exact prs_small enl.1 (by rw [← hN]; exact hg) (ek10 ▸ hx)
          · rw [upd_ne nPO.symm]
            exact s710 _ _ eO7
        · exact ⟨⟨_, _, rfl⟩, s7.trans s79, ps, eP9, Prs.same prP s79, by omega, smP, s79 _ _ eO7, Prs.same prO7 s79⟩
      · obtain ⟨⟨t8, t9, rfl⟩, s7, ps, eP7, prP, lP, smP, eO7, prO7⟩ := hp
        have i7 := inv_same i4 s7
        refine ⟨_, rfl, .inl ⟨rfl, _, .inl (.inl (s7 _ _ eF))⟩, _, rfl, Z, _, 0, _, rfl, rfl, .inl (.inl i7.2.1), at0, _, rfl, _, P, ps, rfl, enl.1, enl.2, .inl (.inl eP7), prP, by omega, fun x hx => ?_, fun H8 s8 => ?_⟩
        · obtain ⟨h1, h2⟩ := smP x hx
          have h3 := at_lt h1 h2
          have h4 : cd (en m b) x = x.1 * en m b + x.2 := rfl
          exact ⟨h2, by omega⟩
        have eF8 := (s7.trans s8) _ _ eF
        refine ⟨F, _, _, rfl, rfl, eF8, by rw [List.length_map, sizeLine_eq]; omega, ⟨_, _, _, _, _, rfl⟩, inv_set eF8 (inv_same i7 s8), xs ++ [bitsN (en m b) (prsOf ps)], ?_, by rw [List.length_append, lx]; rfl, fun x h => ?_⟩
        · rw [upd_same, show tbV (xs ++ [bitsN (en m b) (prsOf ps)]) = tbV xs ++ [V.int (bitsN (en m b) (prsOf ps) : Nat)] from List.map_append]
        · rcases List.mem_append.mp h with h | h
          · exact hx x h
          · rw [List.mem_singleton.mp h, hN]
            exact bits_lt smP
    · obtain ⟨⟨t5, t6, t7, t8, t9, rfl⟩, i4, xs, eF, lx, hx⟩ := hp
      refine ⟨_, rfl, rfl, _, rfl, ite2 (fun _ => ?_) (fun _ => ?_)⟩
      · refine ⟨_, rfl, _, rfl, Z, _, 1, _, rfl, rfl, .inl (.inl i4.2.1), at1, a, _, rfl, i4.1.2, by omega, by omega, fun v H5 hv g5 _ => ?_⟩
        refine ⟨_, rfl, _, rfl, _, rfl, Z, _, 1, _, rfl, rfl, .inl (.inl (g5.1 _ _ nZa i4.2.1)), at1, a, _, rfl, g5.2, by omega, by omega, fun j H6 hj g6 _ => ?_⟩
        have g56 := g5.trans g6
        have eF6 := g56.1 _ _ nFa eF
        refine ⟨F, _, _, j, rfl, rfl, eF6, ixN_at (by rw [List.length_map, lx]; exact hj), ?_⟩
        have g7 := go_set (o := .lst ((tbV xs).set j (V.int (v : Int)))) (i4.1.trans g56) nF0 nFa
        have e7 : upd H6 F (.lst ((tbV xs).set j (V.int (v : Int)))) F = some (.lst ((tbV xs).set j (V.int (v : Int)))) := upd_same
        refine ⟨_, rfl, F, _, rfl, .inl ⟨.inl (.inl e7), fun l nl => ?_⟩⟩
        refine q _ l (xs.set j v) (g7.then (same_upd nl)) (mk ?_ (by rw [List.length_set, lx]) fun x h => ?_)
        · rw [show tbV (xs.set j v) = (tbV xs).set j (V.int (v : Int)) from List.map_set ..]
          exact tupT upd_same
        · rcases List.mem_or_eq_of_mem_set h with h | h
          · exact hx x h
          · rw [h]
            exact hv
      · refine ⟨_, rfl, F, _, rfl, .inl ⟨.inl (.inl eF), fun l nl => ?_⟩⟩
        exact q _ l xs (i4.1.then (same_upd nl)) (mk (tupT upd_same) lx hx)
end
end SQ

set_option Elab.async false
set_option linter.all false
set_option maxRecDepth 100000
set_option maxHeartbeats 4000000
namespace SQ
open PySem PySem.Spec PyProof.Rows L2
section
variable {P : Program} {w : World} {K : PySem.W.Frag} {mg : Str → Option Value} {base : Heap}
abbrev N_law_right : List Str := ["_law_urn_here", "_law_modes", "_law_watched", "_law_space", "_law_sizes_here", "_law_one_here", "_law_two", "_law_three", "_law_table_here", "_law_both", "_law_odd", "_law_turn", "_law_relation"]
theorem sc_law_right : FnScope N_law_right ["_law_urn_here"] (defScope s_law_right) := ⟨rfl, rfl, rfl, by decide +kernel, rfl, by decide +kernel, by decide +kernel⟩
theorem ok_l_right {f : Addr} {fd : FuncData} (F : Fun K "_law_right" "_law_right" s_law_right f fd) (T : Nm mg) {C : Addr} (G : SpM P w K mg base C) (Cl_take : Cal P w K mg base 1 "_law_take" ["_law_urn_here", "_law_total"] spTake) (Cl_one : Cal P w K mg base 2 "_law_one" ["_law_urn_here", "_law_items"] (spOne K)) (Cl_sizes : Cal P w K mg base 1 "_law_sizes" ["_law_modes", "_law_watched"] spSizes) (Cl_is_monotone : Cal P w K mg base 2 "_law_is_monotone" ["_law_sizes_here", "_law_table_here"] (spLMono K)) (Cl_table : Cal P w K mg base 2 "_law_table" ["_law_urn_here", "_law_sizes_here"] (spTable K)) (Mis_table : MCal P w K mg base C 4 "is_table" ["self", "value"] (spIsTbl C K)) (Mis_monotone : MCal P w K mg base C 6 "is_monotone" ["self", "table"] (spMono C K)) (Mcomposed : MCal P w K mg base C 6 "composed" ["self", "one", "other"] (spComp C K)) : FnOk P w K mg base CX0 7 f fd ["_law_urn_here"] (spRight) := by
  have nd := sc_law_right.nd
  refine F.ok sc_law_right (fun vs H Q E h => ?_) (fun cdv A outer s H vs Q E hr h => ?_)
  · obtain ⟨a, rfl, di, q⟩ := h
    rfl
  · obtain ⟨a, rfl, di, q⟩ := h
    skip
    refine ⟨_, (pss_cons (ps_asg (pe_own Cl_one (hr.mono (by decide)) (by rfl) (pa_cons (pv 0) (pa_cons (pe_lst (pa_cons (pe_tup (pa_cons pe_int (pa_cons pe_bl pa_nil))) (pa_cons (pe_tup (pa_cons pe_int (pa_cons pe_bl pa_nil))) (pa_cons (pe_tup (pa_cons pe_int (pa_cons pe_bl pa_nil))) (pa_cons (pe_tup (pa_cons pe_int (pa_cons pe_bl pa_nil))) pa_nil))))) pa_nil))) (pg_tup rfl (pgs_cons (pg_name (i := 1) nd rfl (Or.inl rfl)) (pgs_cons (pg_name (i := 2) nd rfl (Or.inl rfl)) pgs_nil))))
  (pss_cons (ps_asg (pe_tup (pa_cons (pe_mkW G (hr.mono (by decide)) (by rfl) (pa_cons (pv 1) pa_nil) (pk_cons (pv 2) pk_nil)) (pa_cons (pe_own Cl_sizes (hr.mono (by decide)) (by rfl) (pa_cons (pv 1) (pa_cons (pv 2) pa_nil))) pa_nil))) (pg_tup rfl (pgs_cons (pg_name (i := 3) nd rfl (Or.inl rfl)) (pgs_cons (pg_name (i := 4) nd rfl (Or.inr rfl)) pgs_nil))))
  (pss_cons (ps_asg (pe_lc (own := [("_law_turn", 11)]) (g := gName 11) (tt := tYes) rfl nd (pi_range1 rfl T.b_range (pa_cons pe_int pa_nil)) (blkOk_by (own := [("_law_turn", 11)]) (N := N_law_right) (sc := defScope s_law_right) (by decide +kernel)) (fun _ _ _ _ _ => (pg_name (i := 11) nd rfl (Or.inl rfl))) (fun _ _ _ _ _ => pts_nil) (fun _ _ _ _ _ => (pe_own Cl_table (hr.mono (by decide)) (by rfl) (pa_cons (pv 0) (pa_cons (pv 4) pa_nil))))) (pg_unl rfl (pgs_cons (pg_name (i := 5) nd rfl (Or.inr rfl)) (pgs_cons (pg_name (i := 6) nd rfl (Or.inr rfl)) (pgs_cons (pg_name (i := 7) nd rfl (Or.inl rfl)) pgs_nil)))))
  (pss_cons (ps_for PassesOwn.never rfl (pi_tup (pe_tup (pa_cons (pv 5) (pa_cons (pv 6) pa_nil)))) (pg_name (i := 8) nd rfl (Or.inl rfl))
  (pss_one (ps_if (PW.pt (pw_or (pt_not (pt_val (pe_ownM Mis_table G.c.cl (hr.mono (by decide)) (pv 3) (pa_cons (pv 8) pa_nil)))) (pw_or1 (pt_cmpR op_ne (pe_callB call_repr_bl (by rfl) T.b_repr (by decide +kernel) (pa_cons (pe_ownM Mis_monotone G.c.cl (hr.mono (by decide)) (pv 3) (pa_cons (pv 8) pa_nil)) pa_nil)) (pe_callB call_repr_bl (by rfl) T.b_repr (by decide +kernel) (pa_cons (pe_own Cl_is_monotone (hr.mono (by decide)) (by rfl) (pa_cons (pv 4) (pa_cons (pv 8) pa_nil))) pa_nil)) (nomark _)))))
  (pss_one (ps_ret pe_bl))
  pss_nil)))
  (pss_cons (ps_set (i := 9) nd rfl (Or.inl rfl) (pe_ownM Mcomposed G.c.cl (hr.mono (by decide)) (pv 3) (pa_cons (pv 5) (pa_cons (pv 6) pa_nil))))
  (pss_cons (ps_if (pt_cmpR (op_neD hr.units) (pv 9) (pe_callTy call_tuple_of (by rfl) T.b_tuple (by decide +kernel) (pa_cons (pe_lc (own := [("_law_relation", 12)]) (g := gName 12) (tt := tYes) rfl nd (pi_range1 rfl T.b_range (pa_cons (pe_ix ix_list (pv 4) pe_int (fun _ _ => rfl)) pa_nil)) (blkOk_by (own := [("_law_relation", 12)]) (N := N_law_right) (sc := defScope s_law_right) (by decide +kernel)) (fun _ _ _ _ _ => (pg_name (i := 12) nd rfl (Or.inl rfl))) (fun _ _ _ _ _ => pts_nil) (fun _ _ _ _ _ => (pe_ix (ix_tupK (K := K) rfl) (pv 5) (pe_ix (ix_tupK (K := K) rfl) (pv 6) (pv 12) (fun _ _ => rfl)) (fun _ _ => rfl)))) pa_nil)) (nomark _))
  (pss_one (ps_ret pe_bl))
  pss_nil)
  (pss_cons (ps_if (pt_cmpR (op_neD hr.units) (pe_ownM Mcomposed G.c.cl (hr.mono (by decide)) (pv 3) (pa_cons (pv 9) (pa_cons (pv 7) pa_nil))) (pe_ownM Mcomposed G.c.cl (hr.mono (by decide)) (pv 3) (pa_cons (pv 5) (pa_cons (pe_ownM Mcomposed G.c.cl (hr.mono (by decide)) (pv 3) (pa_cons (pv 6) (pa_cons (pv 7) pa_nil))) pa_nil))) (nomark _))
  (pss_one (ps_ret pe_bl))
  pss_nil)
  (pss_cons (ps_if (PW.pt (pw_and (pt_val (pe_ownM Mis_monotone G.c.cl (hr.mono (by decide)) (pv 3) (pa_cons (pv 5) pa_nil))) (pw_and (pt_val (pe_ownM Mis_monotone G.c.cl (hr.mono (by decide)) (pv 3) (pa_cons (pv 6) pa_nil))) (pw_and1 (pt_not (pt_val (pe_ownM Mis_monotone G.c.cl (hr.mono (by decide)) (pv 3) (pa_cons (pv 9) pa_nil))))))))
  (pss_one (ps_ret pe_bl))
  pss_nil)
  (pss_cons (ps_set (i := 10) nd rfl (Or.inl rfl) (pe_own Cl_one (hr.mono (by decide)) (by rfl) (pa_cons (pv 0) (pa_cons (pe_lst (pa_cons pe_non (pa_cons pe_int (pa_cons (pe_callTy call_list_of (by rfl) T.b_list (by decide +kernel) (pa_cons (pv 5) pa_nil)) (pa_cons (pe_slice sl_tup (pv 5) (po_some pe_int) po_none) (pa_cons (pe_op op_catT (pv 5) (pe_tup (pa_cons pe_int pa_nil))) (pa_cons (pe_op op_catT (pe_slice sl_tup (pv 5) po_none (po_some (pe_un un_neg pe_int))) (pe_tup (pa_cons (pe_ix ix_list (pv 4) pe_int (fun _ _ => rfl)) pa_nil))) (pa_cons (pe_op op_catT (pe_slice sl_tup (pv 5) po_none (po_some (pe_un un_neg pe_int))) (pe_tup (pa_cons pe_non pa_nil))) (pa_cons (pe_tup pa_nil) (pa_cons pe_dnewK pa_nil)))))))))) pa_nil))))
  (pss_one (ps_ret (pe_and (pe_not (pe_ownM Mis_table G.c.cl (hr.mono (by decide)) (pv 3) (pa_cons (pv 10) pa_nil))) (pe_and (pe_not (pe_ownM Mis_table G.c.cl (hr.mono (by decide)) (pv 3) (pa_cons (pe_op op_catT (pe_tup (pa_cons pe_bl pa_nil)) (pe_slice sl_tup (pv 5) (po_some pe_int) po_none)) pa_nil))) (pe_one (pe_not (pe_ownM Mis_table G.c.cl (hr.mono (by decide)) (pv 3) (pa_cons (pe_op op_catT (pe_tup (pa_cons (pe_un un_neg pe_int) pa_nil)) (pe_slice sl_tup (pv 5) (po_some pe_int) po_none)) pa_nil))))))))))))))))), ?_⟩

    -- modes and watched
    refine ⟨_, rfl, by show 2 ≤ sizeLine; decide, fun u1 n1 => ?_⟩
    generalize hX : upd H u1 _ = Ha
    have sa : Same H Ha := by
      rw [← hX]
      exact same_upd n1
    have ea := (congrFun hX u1).symm.trans upd_same
    clear hX
    refine ⟨by show 2 ≤ sizeLine; decide, fun u2 n2 => ?_⟩
    generalize hX : upd Ha u2 _ = Hb
    have sb : Same Ha Hb := by
      rw [← hX]
      exact same_upd n2
    have eb := (congrFun hX u2).symm.trans upd_same
    clear hX
    refine ⟨by show 2 ≤ sizeLine; decide, fun u3 n3 => ?_⟩
    generalize hX : upd Hb u3 _ = Hc
    have sc : Same Hb Hc := by
      rw [← hX]
      exact same_upd n3
    have ec := (congrFun hX u3).symm.trans upd_same
    clear hX
    refine ⟨by show 2 ≤ sizeLine; decide, fun u4 n4 => ?_⟩
    generalize hX : upd Hc u4 _ = Hd
    have sd : Same Hc Hd := by
      rw [← hX]
      exact same_upd n4
    have ed := (congrFun hX u4).symm.trans upd_same
    clear hX
    refine ⟨by show 4 ≤ sizeLine; decide, fun u5 n5 => ?_⟩
    generalize hX : upd Hd u5 _ = He
    have se : Same Hd He := by
      rw [← hX]
      exact same_upd n5
    have ee := (congrFun hX u5).symm.trans upd_same
    clear hX
    have s0 := sa.trans (sb.trans (sc.trans (sd.trans se)))
    have d0 := di.same s0
    have nu5 : u5 ≠ a := (di.same (sa.trans (sb.trans (sc.trans sd)))).ne n5
    have items : ∀ v, v ∈ [V.ref u1, V.ref u2, V.ref u3, V.ref u4] → ∃ t m b, v = V.ref t ∧ 1 ≤ m ∧ m ≤ 2 ∧ SqT K He t [V.int ((m : Nat) : Int), V.bl b] := fun v hv => by
      simp only [List.mem_cons, List.not_mem_nil, or_false] at hv
      rcases hv with rfl | rfl | rfl | rfl
      · exact ⟨u1, 1, false, rfl, by decide, by decide, tupT ((sb.trans (sc.trans (sd.trans se))) _ _ ea)⟩
      · exact ⟨u2, 1, true, rfl, by decide, by decide, tupT ((sc.trans (sd.trans se)) _ _ eb)⟩
      · exact ⟨u3, 2, false, rfl, by decide, by decide, tupT ((sd.trans se) _ _ ec)⟩
      · exact ⟨u4, 2, true, rfl, by decide, by decide, tupT (se _ _ ed)⟩
    refine ⟨a, u5, _, d0, rfl, .inl (.inl ee), nu5, List.cons_ne_nil _ _, by show 4 < 1000; decide, fun v H1 hv g1 _ => ?_⟩
    obtain ⟨t, m, b, rfl, m1, m2, sqt⟩ := items v hv
    refine ⟨t, _, rfl, Go.sqT d0 g1 sqt, rfl, _, _, rfl, _, _, rfl, rfl, ?_⟩
    have g := (Go.of di s0).trans g1
    clear sa sb sc sd se s0 d0 ea eb ec ed ee n1 n2 n3 n4 n5 nu5 items hv sqt g1
    have mm : 1 ≤ m ∧ m ≤ 3 := ⟨m1, by omega⟩
    have enl := en_le (b := b) mm
    have szl := size_le (b := b) mm
    obtain ⟨N, hN⟩ : ∃ N, N = 2 ^ (m * en m b) := ⟨_, rfl⟩
    have N64 : N ≤ 64 := by rw [hN]; exact Nat.pow_le_pow_right (n := 2) (by decide) (men6 m1 m2)
    have N2 : 2 ≤ N := by rw [hN]; exact Nat.le_trans (by decide) (Nat.pow_le_pow_right (n := 2) (by decide) (show 1 ≤ m * en m b from Nat.mul_pos m1 enl.1))
    -- the space
    refine ⟨_, rfl, _, rfl, rfl, rfl, fun sp dx nx ndx nex => ⟨sp, dx, m, b, rfl, upd_same, m1, mm.2, fun H3 k3 e3 => ⟨rfl, ?_⟩⟩⟩
    have s3 := mk_same nx ndx k3
    have g3 := g.then s3
    clear k3 s3 g nx ndx
    refine ⟨_, rfl, _, rfl, m, b, rfl, m1, mm.2, fun H4 Z s4 nZ eZ => ?_⟩
    have nZa := g3.2.ne nZ
    have g4 := g3.then s4
    have e4 := s4 _ _ e3
    clear g3 e3 s4 nZ
    refine ⟨by show 2 ≤ sizeLine; decide, fun t2 n2 => ?_⟩
    generalize hX : upd H4 t2 _ = H5
    have s5 : Same H4 H5 := by
      rw [← hX]
      exact same_upd n2
    have e5 := (congrFun hX t2).symm.trans upd_same
    clear hX
    have g5 := g4.then s5
    have ep5 := s5 _ _ e4
    have ez5 : H5 Z = some (.lst (szL m b)) := s5 _ _ eZ
    refine ⟨t2, _, rfl, tupT e5, rfl, _, _, rfl, _, _, rfl, rfl, ?_⟩
    clear s5 e5 n2 g4 e4 eZ
    -- three tables
    refine ⟨3, rfl, by decide, by decide, fun D nD => ?_⟩
    have nDa := g5.2.ne nD
    have npa : sp ≠ a := g5.2.neT ep5 (by intro xs z; cases z)
    refine lcR (n := 3) (fun _ => true) (fun _ y H' => ∃ t xs, y = .ref t ∧ Tb K H' t (m * en m b) xs) (Rg.go g5.2 nD) (fun _ y Ha Hb g s h => ?_) (fun _ y Ha o _ hD h => ?_) (by decide) (fun i H6 Ok No hi g6 hD ok no => ?_) (fun H6 ys g6 e6 al => ?_)
    · obtain ⟨t, xs, rfl, h⟩ := h
      exact ⟨t, xs, rfl, h.go g.2 s⟩
    · obtain ⟨t, xs, rfl, h⟩ := h
      obtain ⟨zs, hD⟩ := hD
      exact ⟨t, xs, rfl, sqT_set hD h.sq, h.len, h.lt⟩
    · exact ⟨rfl, _, rfl, _, rfl, a, Z, m, b, rfl, g6.2, nZa, g6.1 _ _ nZa ez5, m1, m2, fun H7 t xs g7 tb => ok rfl _ _ g7 ⟨t, xs, rfl, tb⟩⟩
    have gA := g5.trans g6
    have epA := g6.1 _ _ npa ep5
    have ezA := g6.1 _ _ nZa ez5
    rw [show (List.range 3).filter (fun _ => true) = [0, 1, 2] from rfl] at al
    obtain ⟨x, y, z, xs, ys', zs, rfl, tx, ty, tz⟩ : ∃ x y z xs ys' zs, ys = [.ref x, .ref y, .ref z] ∧ Tb K H6 x (m * en m b) xs ∧ Tb K H6 y (m * en m b) ys' ∧ Tb K H6 z (m * en m b) zs := by
      cases al with
      | cons a1 al => cases al with
        | cons a2 al => cases al with
          | cons a3 al =>
            cases al
            obtain ⟨x, xs, rfl, h1⟩ := a1
            obtain ⟨y, ys', rfl, h2⟩ := a2
            obtain ⟨z, zs, rfl, h3⟩ := a3
            exact ⟨x, y, z, xs, ys', zs, rfl, h1, h2, h3⟩
    refine ⟨D, _, rfl, .inl (.inl e6), rfl, _, _, rfl, _, _, rfl, _, _, rfl, rfl, ?_⟩
    clear al g6 g5 ep5 ez5 nD e6
    -- each of two
    refine ⟨_, rfl, _, rfl, by show 2 ≤ sizeLine; decide, fun t3 n3 => ?_⟩
    generalize hX : upd H6 t3 _ = H7
    have s7 : Same H6 H7 := by
      rw [← hX]
      exact same_upd n3
    have e7 := (congrFun hX t3).symm.trans upd_same
    clear hX
    have gB := gA.then s7
    have epB := s7 _ _ epA
    have ezB := s7 _ _ ezA
    have tx7 := tx.same s7
    have ty7 := ty.same s7
    have tz7 := tz.same s7
    clear s7 gA epA ezA tx ty tz n3
    refine ⟨t3, rfl, ⟨_, tupT e7⟩, ?_⟩
    have tlen : ∀ {t xs}, Tb K H7 t (m * en m b) xs → (tbV xs).length ≤ 5000 := fun tb => by
      rw [List.length_map, tb.len, ← hN]
      omega
    refine for_tup (xs := [V.ref x, V.ref y]) (fun i σ H' => (∃ t8, σ = [some (.ref a), some (.int (m : Int)), some (.bl b), some (.ref sp), some (.ref Z), some (.ref x), some (.ref y), some (.ref z), t8, none, none, none, none]) ∧ Same H7 H') ⟨⟨_, rfl⟩, Same.rfl⟩ (fun i σ H' _ hp => Same.sqT hp.2 (tupT e7)) (fun i v σ H8 hv hp => ?_) (fun σ H8 hp => ?_)
    · obtain ⟨⟨t8, rfl⟩, s8⟩ := hp
      obtain ⟨t, xs0, rfl, tb⟩ : ∃ t xs0, v = V.ref t ∧ Tb K H7 t (m * en m b) xs0 := by
        have mv := List.mem_of_getElem? hv
        simp only [List.mem_cons, List.not_mem_nil, or_false] at mv
        rcases mv with rfl | rfl
        · exact ⟨x, xs, rfl, tx7⟩
        · exact ⟨y, ys', rfl, ty7⟩
      refine ⟨_, rfl, sp, dx, _, rfl, s8 _ _ epB, noF, _, rfl, sp, m, b, .ref t, rfl, ⟨mm, dx, s8 _ _ epB⟩, .inl ⟨t, _, rfl, (tb.same s8).sq, tb_atm, tlen tb, fun H9 s9 => ?_⟩⟩
      rw [List.length_map, tb.len, decide_eq_true rfl, tb_all tb.lt]
      refine ⟨_, rfl, iteF ?_⟩
      have s89 := s8.trans s9
      refine ⟨_, rfl, sp, dx, _, rfl, s89 _ _ epB, noF, _, rfl, sp, t, m, b, xs0, rfl, ⟨mm, dx, s89 _ _ epB⟩, tb.same s89, fun H10 s10 => ?_⟩
      refine ⟨_, rfl, _, rfl, _, rfl, Z, t, m, b, xs0, rfl, .inl (.inl ((s89.trans s10) _ _ ezB)), m1, m2, tb.same (s89.trans s10), fun H11 s11 => ?_⟩
      refine ⟨_, rfl, rfl, _, rfl, ?_⟩
      rw [mono_eq, decide_eq_true rfl]
      exact iteF ⟨⟨_, rfl⟩, s89.trans (s10.trans s11)⟩
    obtain ⟨⟨t8, rfl⟩, s8⟩ := hp
    have gC := gB.then s8
    have epC := s8 _ _ epB
    have ezC := s8 _ _ ezB
    have tx8 := tx7.same s8
    have ty8 := ty7.same s8
    have tz8 := tz7.same s8
    clear s8 gB epB ezB tx7 ty7 tz7 e7 tlen
    -- both
    refine ⟨_, rfl, sp, dx, _, rfl, epC, noF, _, rfl, _, rfl, sp, x, y, m, b, xs, ys', rfl, ⟨mm, dx, epC⟩, tx8, ty8, fun H9 w' s9 tw => ?_⟩
    have ez9 := s9 _ _ ezC
    refine ⟨_, rfl, _, rfl, Z, _, 1, _, rfl, rfl, .inl (.inl ez9), at1, _, rfl, Int.le_trans (by decide) (Int.natCast_nonneg _), Int.lt_of_le_of_lt (Int.ofNat_le.mpr szl) (by decide), fun D2 nD2 => ?_⟩
    have lty : ∀ r, r < 2 ^ (m * en m b) → tf ys' r < 2 ^ (m * en m b) := fun r hr => (ty8.at hr).2
    refine lcR (n := 2 ^ (m * en m b)) (fun _ => true) (fun r y _ => y = .int (tf xs (tf ys' r) : Nat)) (Rg.same nD2) (fun _ _ _ _ _ _ h => h) (fun _ _ _ _ _ _ h => h) (by omega) (fun r H10 Ok No hr s10 _ ok _ => ?_) (fun H10 vs s10 e10 al => ?_)
    · refine ⟨rfl, _, rfl, _, rfl, _, rfl, y, _, _, _, rfl, rfl, (ty8.same (s9.trans s10)).sq, atI_nat (ty8.at hr).1, x, _, _, _, rfl, rfl, (tx8.same (s9.trans s10)).sq, atI_nat (tx8.at (lty r hr)).1, ok rfl _ _ Same.rfl rfl⟩
    have ev := (al.mono (Ψ := fun (r : Nat) y => y = V.int (tf xs (tf ys' r) : Nat)) fun _ _ h => h).map
    rw [List.filter_eq_self.mpr (fun _ _ => rfl)] at ev
    have key : vs = tbV (ys'.map (tf xs)) := by
      rw [ev]
      refine List.ext_getElem (by rw [List.length_map, List.length_range, List.length_map, List.length_map, ty8.len]) fun i h1 h2 => ?_
      simp only [List.getElem_map, List.getElem_range]
      have hl : i < ys'.length := by
        rw [List.length_map, List.length_map] at h2
        exact h2
      have : tf ys' i = ys'[i] := by
        unfold tf
        rw [List.getD_eq_getElem?_getD, List.getElem?_eq_getElem hl]
        rfl
      rw [this]
    refine ⟨D2, _, rfl, .inl ⟨.inl (.inl e10), fun l nl => ?_⟩⟩
    generalize hX : upd H10 l _ = H11
    have s11 : Same H10 H11 := by
      rw [← hX]
      exact same_upd nl
    have e11 := (congrFun hX l).symm.trans upd_same
    clear hX
    rw [key] at e11
    have s89 := s9.trans (s10.trans s11)
    refine ⟨_, _, dp_tb (tw.same (s10.trans s11)).sq, dp_tb (tupT e11), shaped_tb, shaped_tb, _, rfl, ?_⟩
    rw [eqv_tb]
    refine iteF ?_
    have gD := gC.then s89
    have epD := s89 _ _ epC
    have ezD := s89 _ _ ezC
    have txD := tx8.same s89
    have tyD := ty8.same s89
    have tzD := tz8.same s89
    have twD := tw.same (s10.trans s11)
    clear gC epC ezC tx8 ty8 tz8 tw s89 s9 s10 s11 e10 e11 al ev key nl nD2 ez9 lty
    -- in any brackets
    have spD : ∀ {H'}, Same H11 H' → SpAt C H' sp m b := fun s => ⟨mm, dx, s _ _ epD⟩
    refine ⟨_, rfl, sp, dx, _, rfl, epD, noF, _, rfl, _, rfl, sp, w', z, m, b, _, zs, rfl, ⟨mm, dx, epD⟩, twD, tzD, fun H12 p1 s12 t1 => ?_⟩
    refine ⟨_, rfl, sp, dx, _, rfl, s12 _ _ epD, noF, _, rfl, _, rfl, sp, dx, _, rfl, s12 _ _ epD, noF, _, rfl, _, rfl, sp, y, z, m, b, ys', zs, rfl, spD s12, tyD.same s12, tzD.same s12, fun H13 p2 s13 t2' => ?_⟩
    have sE := s12.trans s13
    refine ⟨sp, x, p2, m, b, xs, _, rfl, spD sE, txD.same sE, t2', fun H14 p3 s14 t3' => ?_⟩
    have sF := sE.trans s14
    refine ⟨_, _, dp_tb (t1.same (s13.trans s14)).sq, dp_tb t3'.sq, shaped_tb, shaped_tb, _, rfl, ?_⟩
    rw [← comp_list (f := tf xs) (fun z hz => by rw [tyD.len]; exact tzD.lt z hz), eqv_tb]
    refine iteF ?_
    clear t1 t2' t3' s12 s13 s14 sE
    -- monotone ones
    refine ⟨_, rfl, sp, dx, _, rfl, sF _ _ epD, noF, _, rfl, sp, x, m, b, xs, rfl, spD sF, txD.same sF, fun H15 s15 => ⟨_, rfl, ?_⟩⟩
    have sG := sF.trans s15
    cases c1 : monoB (m * en m b) (tf xs)
    case' false =>
      refine iteF (iteF ?_)
      obtain ⟨HZ, hz⟩ : ∃ HZ, HZ = H15 := ⟨_, rfl⟩
      have sZ : Same H11 HZ := by rw [hz]; exact sG
      rw [← hz]
      clear hz
    case' true =>
      refine iteT ?_
      refine ⟨_, rfl, sp, dx, _, rfl, sG _ _ epD, noF, _, rfl, sp, y, m, b, ys', rfl, spD sG, tyD.same sG, fun H16 s16 => ⟨_, rfl, ?_⟩⟩
      have sH := sG.trans s16
      cases c2 : monoB (m * en m b) (tf ys')
      case' false =>
        refine iteF (iteF ?_)
        obtain ⟨HZ, hz⟩ : ∃ HZ, HZ = H16 := ⟨_, rfl⟩
        have sZ : Same H11 HZ := by rw [hz]; exact sH
        rw [← hz]
        clear hz
      case' true =>
        refine iteT ?_
        refine ⟨_, rfl, sp, dx, _, rfl, sH _ _ epD, noF, _, rfl, sp, w', m, b, _, rfl, spD sH, twD.same sH, fun H17 s17 => ⟨_, rfl, ?_⟩⟩
        rw [mono_comp txD.len tyD.len tyD.lt c1 c2]
        refine iteF ?_
        obtain ⟨HZ, hz⟩ : ∃ HZ, HZ = H17 := ⟨_, rfl⟩
        have sZ : Same H11 HZ := by rw [hz]; exact sH.trans s17
        rw [← hz]
        clear hz
    all_goals
      have gZ := gD.then sZ
      have epZ := sZ _ _ epD
      have ezZ := sZ _ _ ezD
      have txZ := txD.same sZ
      have lx : (tbV xs).length = N := by rw [List.length_map, txD.len, hN]
      have lx2 : 2 ≤ (tbV xs).length := by omega
      have axm : ∀ v ∈ tbV xs, Atm v := tb_atm
      clear sF sG spD gD epD ezD txD tyD tzD twD
      -- the odd ones
      refine ⟨_, rfl, _, rfl, x, _, rfl, .inr txZ.sq, fun o1 no1 => ?_⟩
      generalize hX : upd HZ o1 _ = J1
      have j1 : Same HZ J1 := by
        rw [← hX]
        exact same_upd no1
      have eo1 := (congrFun hX o1).symm.trans upd_same
      clear hX
      refine ⟨_, rfl, 1, rfl, x, _, rfl, (txZ.same j1).sq, (cut_tail lx2).1, fun o2 no2 => ?_⟩
      generalize hX : upd J1 o2 _ = J2
      have j2 : Same J1 J2 := by
        rw [← hX]
        exact same_upd no2
      have eo2 := (congrFun hX o2).symm.trans upd_same
      clear hX
      rw [(cut_tail lx2).2] at eo2
      refine ⟨_, rfl, by show 1 ≤ sizeLine; decide, fun q3 nq3 => ?_⟩
      generalize hX : upd J2 q3 _ = J3
      have j3 : Same J2 J3 := by
        rw [← hX]
        exact same_upd nq3
      have eq3 := (congrFun hX q3).symm.trans upd_same
      clear hX
      have j03 := j1.trans (j2.trans j3)
      refine ⟨x, q3, _, _, rfl, rfl, (txZ.same j03).sq, tupT eq3, (fun z => by rw [z] at lx2; simp at lx2), by rw [sizeLine_eq]; simp only [List.length_cons, List.length_nil]; omega, (fun z => absurd z (List.cons_ne_nil _ _)), fun _ o3 no3 => ?_⟩
      generalize hX : upd J3 o3 _ = J4
      have j4 : Same J3 J4 := by
        rw [← hX]
        exact same_upd no3
      have eo3 := (congrFun hX o3).symm.trans upd_same
      clear hX
      have j04 := j03.trans j4
      refine ⟨_, rfl, 1, rfl, -1, rfl, x, _, rfl, (txZ.same j04).sq, (cut_init lx2).1, fun q4 nq4 => ?_⟩
      generalize hX : upd J4 q4 _ = J5
      have j5 : Same J4 J5 := by
        rw [← hX]
        exact same_upd nq4
      have eq4 := (congrFun hX q4).symm.trans upd_same
      clear hX
      rw [(cut_init lx2).2] at eq4
      have j05 := j04.trans j5
      have tl : ((tbV xs).take ((tbV xs).length - 1)).length = N - 1 := by rw [List.length_take]; omega
      have tn : (tbV xs).take ((tbV xs).length - 1) ≠ [] := fun z => by rw [z] at tl; simp at tl; omega
      have tat : ∀ v ∈ (tbV xs).take ((tbV xs).length - 1), Atm v := fun v hv => axm v (List.mem_of_mem_take hv)
      refine ⟨_, rfl, Z, _, 1, _, rfl, rfl, .inl (.inl (j05 _ _ ezZ)), at1, by show 1 ≤ sizeLine; decide, fun q5 nq5 => ?_⟩
      generalize hX : upd J5 q5 _ = J6
      have j6 : Same J5 J6 := by
        rw [← hX]
        exact same_upd nq5
      have eq5 := (congrFun hX q5).symm.trans upd_same
      clear hX
      have j06 := j05.trans j6
      refine ⟨q4, q5, _, _, rfl, rfl, tupT (j6 _ _ eq4), tupT eq5, tn, by rw [tl, sizeLine_eq]; simp only [List.length_cons, List.length_nil]; omega, (fun z => absurd z (List.cons_ne_nil _ _)), fun _ o5 no5 => ?_⟩
      generalize hX : upd J6 o5 _ = J7
      have j7 : Same J6 J7 := by
        rw [← hX]
        exact same_upd no5
      have eo5 := (congrFun hX o5).symm.trans upd_same
      clear hX
      have j07 := j06.trans j7
      refine ⟨_, rfl, 1, rfl, -1, rfl, x, _, rfl, (txZ.same j07).sq, (cut_init lx2).1, fun q6 nq6 => ?_⟩
      generalize hX : upd J7 q6 _ = J8
      have j8 : Same J7 J8 := by
        rw [← hX]
        exact same_upd nq6
      have eq6 := (congrFun hX q6).symm.trans upd_same
      clear hX
      rw [(cut_init lx2).2] at eq6
      have j08 := j07.trans j8
      refine ⟨by show 1 ≤ sizeLine; decide, fun q7 nq7 => ?_⟩
      generalize hX : upd J8 q7 _ = J9
      have j9 : Same J8 J9 := by
        rw [← hX]
        exact same_upd nq7
      have eq7 := (congrFun hX q7).symm.trans upd_same
      clear hX
      have j09 := j08.trans j9
      refine ⟨q6, q7, _, _, rfl, rfl, tupT (j9 _ _ eq6), tupT eq7, tn, by rw [tl, sizeLine_eq]; simp only [List.length_cons, List.length_nil]; omega, (fun z => absurd z (List.cons_ne_nil _ _)), fun _ o6 no6 => ?_⟩
      generalize hX : upd J9 o6 _ = L0
      have l0 : Same J9 L0 := by
        rw [← hX]
        exact same_upd no6
      have eo6 := (congrFun hX o6).symm.trans upd_same
      clear hX
      have k00 := j09.trans l0
      refine ⟨Nat.zero_le _, fun o7 no7 => ?_⟩
      generalize hX : upd L0 o7 _ = L1
      have l1 : Same L0 L1 := by
        rw [← hX]
        exact same_upd no7
      have eo7 := (congrFun hX o7).symm.trans upd_same
      clear hX
      have k01 := k00.trans l1
      refine fun o8 no8 => ?_
      generalize hX : upd L1 o8 _ = L2'
      have l2 : Same L1 L2' := by
        rw [← hX]
        exact same_upd no8
      have eo8 := (congrFun hX o8).symm.trans upd_same
      clear hX
      have k02 := k01.trans l2
      refine ⟨by show 9 ≤ sizeLine; decide, fun oL noL => ?_⟩
      generalize hX : upd L2' oL _ = L3
      have l3 : Same L2' L3 := by
        rw [← hX]
        exact same_upd noL
      have eoL := (congrFun hX oL).symm.trans upd_same
      clear hX
      have k03 := k02.trans l3
      have noLa : oL ≠ a := (gZ.then k02).2.ne noL
      have o1a : o1 ≠ a := gZ.2.ne no1
      have o8a : o8 ≠ a := (gZ.then k01).2.ne no8
      have ones : ∀ (n : Int), ∀ v ∈ [V.int n], Atm v := fun n v hv => by
        rw [List.mem_singleton.mp hv]
        exact .inr (.inr ⟨_, rfl⟩)
      have odds : ∀ v, v ∈ [V.non, .int 0, .ref o1, .ref o2, .ref o3, .ref o5, .ref o6, .ref o7, .ref o8] → Odd K a N L3 v := fun v hv => by
        simp only [List.mem_cons, List.not_mem_nil, or_false] at hv
        rcases hv with rfl | rfl | rfl | rfl | rfl | rfl | rfl | rfl | rfl
        · exact .inr ⟨.non, fun p z => nomatch z⟩
        · exact .inr ⟨.int 0, fun p z => nomatch z⟩
        · exact .inr ⟨.lst ((j2.trans (j3.trans (j4.trans (j5.trans (j6.trans (j7.trans (j8.trans (j9.trans (l0.trans (l1.trans (l2.trans l3))))))))))) _ _ eo1), fun p z => by cases z; exact o1a⟩
        · refine .inl ⟨o2, _, rfl, tupT ((j3.trans (j4.trans (j5.trans (j6.trans (j7.trans (j8.trans (j9.trans (l0.trans (l1.trans (l2.trans l3)))))))))) _ _ eo2), fun v hv => axm v (List.mem_of_mem_drop hv), ?_, ?_⟩
          · rw [List.length_drop]; omega
          · rw [decide_eq_false (by rw [List.length_drop]; omega), Bool.false_and]
        · refine .inl ⟨o3, _, rfl, tupT ((j5.trans (j6.trans (j7.trans (j8.trans (j9.trans (l0.trans (l1.trans (l2.trans l3)))))))) _ _ eo3), atm_app axm (ones 0), ?_, ?_⟩
          · rw [List.length_append]; simp only [List.length_cons, List.length_nil]; omega
          · rw [decide_eq_false (by rw [List.length_append]; simp only [List.length_cons, List.length_nil]; omega), Bool.false_and]
        · refine .inl ⟨o5, _, rfl, tupT ((j8.trans (j9.trans (l0.trans (l1.trans (l2.trans l3))))) _ _ eo5), atm_app tat (ones _), ?_, ?_⟩
          · rw [List.length_append, tl]; simp only [List.length_cons, List.length_nil]; omega
          · rw [List.all_append, show ([V.int ((2 ^ (m * en m b) : Nat) : Int)].all (inB 0 ((N : Nat) - 1))) = false from by
              rw [← hN]
              show ((decide ((0 : Int) ≤ (N : Int)) && decide ((N : Int) ≤ (N : Int) - 1)) && true) = false
              rw [decide_eq_false (show ¬ (N : Int) ≤ (N : Int) - 1 by omega), Bool.and_false]
              rfl, Bool.and_false, Bool.and_false]
        · refine .inl ⟨o6, _, rfl, tupT ((l1.trans (l2.trans l3)) _ _ eo6), atm_app tat (fun v hv => by rw [List.mem_singleton.mp hv]; exact .inl rfl), ?_, ?_⟩
          · rw [List.length_append, tl]; simp only [List.length_cons, List.length_nil]; omega
          · rw [List.all_append, show ([V.non].all (inB 0 ((N : Nat) - 1))) = false from rfl, Bool.and_false, Bool.and_false]
        · refine .inl ⟨o7, _, rfl, tupT ((l2.trans l3) _ _ eo7), (fun v hv => nomatch hv), Nat.zero_le _, ?_⟩
          rw [decide_eq_false (by simp only [List.length_nil]; omega), Bool.false_and]
        · exact .inr ⟨.dct (l3 _ _ eo8), fun p z => by cases z; exact o8a⟩
      refine ⟨a, oL, _, (gZ.then k03).2, rfl, .inl (.inl eoL), noLa, List.cons_ne_nil _ _, by show 9 < 1000; decide, fun v L4 hv g4 _ => ?_⟩
      have ov := (odds v hv).go (gZ.then k03).2 g4
      have npa2 : sp ≠ a := (gZ.then k03).2.neT (k03 _ _ epZ) (by intro xs z; cases z)
      have ep4 := g4.1 _ _ npa2 (k03 _ _ epZ)
      have tx4 := (txZ.same k03).go (gZ.then k03).2 g4
      have gF := (gZ.then k03).trans g4
      clear odds j2 j3 j4 j5 j6 j7 j8 j9 l0 l1 l2 l3 k00 k01 k02 k03 j03 j04 j05 j06 j07 j08 j09 g4 gZ epZ ezZ txZ eo1 eo2 eo3 eo5 eo6 eo7 eo8 eq3 eq4 eq5 eq6 eq7 eoL
      refine ⟨_, rfl, sp, dx, _, rfl, ep4, noF, _, rfl, ?_⟩
      dsimp only [tNil]
      refine odd_ask hN ov ⟨mm, dx, ep4⟩ fun M1 w1 => ⟨_, rfl, true, rfl, iteT ?_⟩
      have dn : (tbV xs).drop 1 ≠ [] := fun z => by
        have := congrArg List.length z
        rw [List.length_drop] at this
        simp only [List.length_nil] at this
        omega
      have dl : ((tbV xs).drop 1).length = N - 1 := by rw [List.length_drop, lx]
      have first : ∀ (v : V), Atm v → inB 0 ((N : Nat) - 1) v = false → ∀ {H' : Hp} {o : Addr}, H' o = some (.tup ([v] ++ (tbV xs).drop 1)) → Odd K a N H' (.ref o) := fun v av bv {H' o} h => by
        refine .inl ⟨o, _, rfl, tupT h, atm_app (fun w hw => by rw [List.mem_singleton.mp hw]; exact av) (fun w hw => axm w (List.mem_of_mem_drop hw)), ?_, ?_⟩
        · rw [List.length_append, dl]; simp only [List.length_cons, List.length_nil]; omega
        · rw [List.all_append, List.all_cons, bv, Bool.false_and, Bool.false_and, Bool.and_false]
      have tx5 := tx4.same w1
      have ep5 := w1 _ _ ep4
      refine ⟨_, rfl, sp, dx, _, rfl, ep5, noF, by show 1 ≤ sizeLine; decide, fun r1 nr1 => ?_⟩
      generalize hX : upd M1 r1 _ = M2
      have w2 : Same M1 M2 := by
        rw [← hX]
        exact same_upd nr1
      have er1 := (congrFun hX r1).symm.trans upd_same
      clear hX
      refine ⟨_, rfl, 1, rfl, x, _, rfl, (tx5.same w2).sq, (cut_tail lx2).1, fun r2 nr2 => ?_⟩
      generalize hX : upd M2 r2 _ = M3
      have w3 : Same M2 M3 := by
        rw [← hX]
        exact same_upd nr2
      have er2 := (congrFun hX r2).symm.trans upd_same
      clear hX
      rw [(cut_tail lx2).2] at er2
      refine ⟨r1, r2, _, _, rfl, rfl, tupT (w3 _ _ er1), tupT er2, List.cons_ne_nil _ _, by rw [dl, sizeLine_eq]; simp only [List.length_cons, List.length_nil]; omega, (fun z => absurd z dn), fun _ r3 nr3 => ?_⟩
      generalize hX : upd M3 r3 _ = M4
      have w4 : Same M3 M4 := by
        rw [← hX]
        exact same_upd nr3
      have er3 := (congrFun hX r3).symm.trans upd_same
      clear hX
      have w14 := w2.trans (w3.trans w4)
      dsimp only [tNil]
      refine odd_ask hN (first (.bl true) (.inr (.inl ⟨_, rfl⟩)) rfl er3) ⟨mm, dx, w14 _ _ ep5⟩ fun M5 w5 => ⟨_, rfl, true, rfl, iteT ?_⟩
      have w15 := w14.trans w5
      have tx6 := tx5.same w15
      have ep6 := w15 _ _ ep5
      refine ⟨_, rfl, sp, dx, _, rfl, ep6, noF, 1, rfl, by show 1 ≤ sizeLine; decide, fun r4 nr4 => ?_⟩
      generalize hX : upd M5 r4 _ = M6
      have w6 : Same M5 M6 := by
        rw [← hX]
        exact same_upd nr4
      have er4 := (congrFun hX r4).symm.trans upd_same
      clear hX
      refine ⟨_, rfl, 1, rfl, x, _, rfl, (tx6.same w6).sq, (cut_tail lx2).1, fun r5 nr5 => ?_⟩
      generalize hX : upd M6 r5 _ = M7
      have w7 : Same M6 M7 := by
        rw [← hX]
        exact same_upd nr5
      have er5 := (congrFun hX r5).symm.trans upd_same
      clear hX
      rw [(cut_tail lx2).2] at er5
      refine ⟨r4, r5, _, _, rfl, rfl, tupT (w7 _ _ er4), tupT er5, List.cons_ne_nil _ _, by rw [dl, sizeLine_eq]; simp only [List.length_cons, List.length_nil]; omega, (fun z => absurd z dn), fun _ r6 nr6 => ?_⟩
      generalize hX : upd M7 r6 _ = M8
      have w8 : Same M7 M8 := by
        rw [← hX]
        exact same_upd nr6
      have er6 := (congrFun hX r6).symm.trans upd_same
      clear hX
      have w18 := w6.trans (w7.trans w8)
      have neg : inB 0 ((N : Nat) - 1) (.int (-1)) = false := by
        show (decide ((0 : Int) ≤ -1) && decide ((-1 : Int) ≤ (N : Int) - 1)) = false
        rw [decide_eq_false (by decide), Bool.false_and]
      dsimp only [tNil]
      refine odd_ask hN (first (.int (-1)) (.inr (.inr ⟨_, rfl⟩)) neg er6) ⟨mm, dx, w18 _ _ ep6⟩ fun M9 w9 => ⟨_, rfl, ?_⟩
      exact q _ (gF.then (w1.trans (w15.trans (w18.trans w9))))
end
end SQ

set_option Elab.async false
set_option linter.all false
set_option maxRecDepth 100000
set_option maxHeartbeats 4000000
namespace SQ
open PySem PySem.Spec PyProof.Rows L2
section
variable {P : Program} {w : World} {K : PySem.W.Frag} {mg : Str → Option Value} {base : Heap}
abbrev Nlaw : List Str := ["_law_script", "_law_at", "_law_urn_here", "_law_turn", "_law_space", "_law_lock", "_law_every", "_law_told"]
theorem sclaw : FnScope Nlaw ["_law_script"] (defScope slaw) := ⟨rfl, rfl, rfl, by decide +kernel, rfl, by decide +kernel, by decide +kernel⟩
theorem ok_law {f : Addr} {fd : FuncData} (F : Fun K "law" "law" slaw f fd) (T : Nm mg) {C : Addr} (G : SpM P w K mg base C) (Mis_monotone : MCal P w K mg base C 6 "is_monotone" ["self", "table"] (spMono C K)) (Mcomposed : MCal P w K mg base C 6 "composed" ["self", "one", "other"] (spComp C K)) (Cl_urn : Cal P w K mg base 1 "_law_urn" ["_law_script", "_law_at"] (spUrn K)) (Cl_right : Cal P w K mg base 7 "_law_right" ["_law_urn_here"] spRight) : FnOk P w K mg base CX0 8 f fd ["_law_script"] (spLaw K) := by
  have nd := sclaw.nd
  refine F.ok sclaw (fun vs H Q E h => ?_) (fun cdv A outer s H vs Q E hr h => ?_)
  · obtain ⟨a, ns, rfl, sq, hlen, q⟩ := h
    rfl
  · obtain ⟨a, ns, rfl, sq, hlen, q⟩ := h
    skip
    refine ⟨_, (pss_cons (ps_for PassesOwn.never rfl (pi_range1 rfl T.b_range (pa_cons (pe_callB (call_max2 rfl) (by rfl) T.b_max (by decide +kernel) (pa_cons pe_int (pa_cons (pe_callB (call_min2 rfl) (by rfl) T.b_min (by decide +kernel) (pa_cons pe_int (pa_cons (pe_callB call_len (by rfl) T.b_len PySem.boot_len (pa_cons (pv 0) pa_nil)) pa_nil))) pa_nil))) pa_nil)) (pg_name (i := 1) nd rfl (Or.inl rfl))
  (pss_cons (ps_set (i := 2) nd rfl (Or.inl rfl) (pe_own Cl_urn (hr.mono (by decide)) (by rfl) (pa_cons (pv 0) (pa_cons (pv 1) pa_nil))))
  (pss_one (ps_for PassesOwn.never rfl (pi_range1 rfl T.b_range (pa_cons pe_int pa_nil)) (pg_name (i := 3) nd rfl (Or.inl rfl))
  (pss_one (ps_if (pt_not (pt_val (pe_own Cl_right (hr.mono (by decide)) (by rfl) (pa_cons (pv 2) pa_nil))))
  (pss_one (ps_ret pe_bl))
  pss_nil))))))
  (pss_cons (ps_set (i := 4) nd rfl (Or.inl rfl) (pe_mkS G (hr.mono (by decide)) (by rfl) (pa_cons pe_int pa_nil)))
  (pss_cons (ps_par (i := 5) (j := 6) (by rfl) nd rfl rfl (by decide) rfl rfl (pa_cons (pe_op op_catT (pe_op op_repT (pe_tup (pa_cons pe_int pa_nil)) pe_int) (pe_op op_repT (pe_tup (pa_cons pe_int pa_nil)) pe_int)) (pa_cons (pe_tupRg rfl (by rfl) T.b_tuple (prg_1 (by rfl) T.b_range pe_int)) pa_nil)) (by rfl))
  (pss_cons (ps_set (i := 7) nd rfl (Or.inl rfl) (pe_lst (pa_cons (pe_ownM Mis_monotone G.c.cl (hr.mono (by decide)) (pv 4) (pa_cons (pv 5) pa_nil)) (pa_cons (pe_ownM Mis_monotone G.c.cl (hr.mono (by decide)) (pv 4) (pa_cons (pv 6) pa_nil)) (pa_cons (pe_ownM Mis_monotone G.c.cl (hr.mono (by decide)) (pv 4) (pa_cons (pe_op op_catT (pe_tup (pa_cons pe_int pa_nil)) (pe_op op_repT (pe_tup (pa_cons pe_int pa_nil)) pe_int)) pa_nil)) pa_nil)))))
  (pss_one (ps_ret (pe_and (pe_cmpR (op_eqD hr.units) (pv 7) (pe_lst (pa_cons pe_bl (pa_cons pe_bl (pa_cons pe_bl pa_nil)))) (nomark _)) (pe_one (pe_chain (op_eqD hr.units) (op_eqD hr.units) (pe_ownM Mcomposed G.c.cl (hr.mono (by decide)) (pv 4) (pa_cons (pv 5) (pa_cons (pv 6) pa_nil))) (pv 5) (pe_ownM Mcomposed G.c.cl (hr.mono (by decide)) (pv 4) (pa_cons (pv 6) (pa_cons (pv 5) pa_nil)))))))))))), ?_⟩

    refine ⟨_, rfl, _, _, rfl, .inl ⟨_, sq, rfl⟩, _, _, rfl, _, _, rfl, ?_⟩
    have hl : (ns.map V.int).length = ns.length := List.length_map _
    rw [hl]
    obtain ⟨m, em, hm⟩ : ∃ m : Nat, (if (if ((ns.length : Nat) : Int) < 8 then ((ns.length : Nat) : Int) else 8) > 1 then (if ((ns.length : Nat) : Int) < 8 then ((ns.length : Nat) : Int) else 8) else 1) = (m : Int) ∧ m ≤ 8 := by
      refine ⟨(if (if ((ns.length : Nat) : Int) < 8 then ((ns.length : Nat) : Int) else 8) > 1 then (if ((ns.length : Nat) : Int) < 8 then ((ns.length : Nat) : Int) else 8) else 1).toNat, ?_, ?_⟩ <;> (split <;> split <;> omega)
    rw [em]
    refine ⟨_, rfl, by omega, by omega, for_rgN (n := m) (fun i σ H' => (∃ y1 y2 y3, σ = [some (.ref a), y1, y2, y3, none, none, none, none]) ∧ Same H H') ⟨⟨_, _, _, rfl⟩, .refl H⟩ (fun i σ H1 hi hp => ?_) (fun σ H1 hp => ?_)⟩
    · obtain ⟨⟨y1, y2, y3, rfl⟩, s1⟩ := hp
      refine ⟨_, rfl, _, rfl, a, ns, i, rfl, Same.seq s1 sq, by omega, fun H2 p s2 np dp => ?_⟩
      have np0 : H p = none := Same.none s1 np
      refine ⟨2, rfl, by decide, by decide, ?_⟩
      refine for_rgN (n := 2) (fun j σ H' => (∃ y3, σ = [some (.ref a), some (.int (i : Int)), some (.ref p), y3, none, none, none, none]) ∧ Go p H2 H') ⟨⟨_, rfl⟩, .of dp Same.rfl⟩ (fun j σ H3 hj hp => ?_) (fun σ H3 hp => ?_)
      · obtain ⟨⟨y3, rfl⟩, g3⟩ := hp
        refine ⟨_, rfl, p, rfl, g3.2, fun H4 g4 => ⟨_, rfl, iteF ?_⟩⟩
        exact ⟨⟨_, rfl⟩, g3.trans g4⟩
      · obtain ⟨⟨y3, rfl⟩, g3⟩ := hp
        exact ⟨⟨_, _, _, rfl⟩, fun b o e => g3.1 b o (ne_of_none e np0) (s2 b o (s1 b o e))⟩
    · obtain ⟨⟨y1, y2, y3, rfl⟩, s1⟩ := hp
      clear s1
      refine fun sp dx nx ndx nex => ⟨sp, dx, 2, false, rfl, upd_same, by decide, by decide, fun H2 k2 e2 => ⟨rfl, ?_⟩⟩
      refine ⟨by show 1 ≤ sizeLine; decide, fun q1 n1 => ?_⟩
      generalize hX : upd H2 q1 _ = H3
      have s3 : Same H2 H3 := by
        rw [← hX]
        exact same_upd n1
      have e3 := (congrFun hX q1).symm.trans upd_same
      clear hX
      refine ⟨q1, _, _, rfl, rfl, tupT e3, List.cons_ne_nil _ _, by decide, by decide, by show 1 ≤ 1000; decide, fun q2 n2 => ?_⟩
      generalize hX : upd H3 q2 _ = H4
      have s4 : Same H3 H4 := by
        rw [← hX]
        exact same_upd n2
      have e4 := (congrFun hX q2).symm.trans upd_same
      clear hX
      refine ⟨by show 1 ≤ sizeLine; decide, fun q3 n3 => ?_⟩
      generalize hX : upd H4 q3 _ = H5
      have s5 : Same H4 H5 := by
        rw [← hX]
        exact same_upd n3
      have e5 := (congrFun hX q3).symm.trans upd_same
      clear hX
      refine ⟨q3, _, _, rfl, rfl, tupT e5, List.cons_ne_nil _ _, by decide, by decide, by show 1 ≤ 1000; decide, fun q4 n4 => ?_⟩
      generalize hX : upd H5 q4 _ = H6
      have s6 : Same H5 H6 := by
        rw [← hX]
        exact same_upd n4
      have e6 := (congrFun hX q4).symm.trans upd_same
      clear hX
      refine ⟨q2, q4, _, _, rfl, rfl, tupT ((s5.trans s6) _ _ e4), tupT e6, (fun z => by cases z), by decide, (fun z => by cases z), fun _ lk nl => ?_⟩
      generalize hX : upd H6 lk _ = H7
      have s7 : Same H6 H7 := by
        rw [← hX]
        exact same_upd nl
      have e7 := (congrFun hX lk).symm.trans upd_same
      clear hX
      refine ⟨16, rfl, RgOk.of_le (by decide) (by decide) (by decide) (by decide), fun ev nv => ?_⟩
      generalize hX : upd H7 ev _ = H8
      have s8 : Same H7 H8 := by
        rw [← hX]
        exact same_upd nv
      have e8 := (congrFun hX ev).symm.trans upd_same
      clear hX
      refine ⟨_, _, rfl, ?_⟩
      obtain ⟨lockL, hl⟩ : ∃ l : List Nat, l = [0, 0, 0, 0, 0, 0, 0, 0, 1, 1, 1, 1, 1, 1, 1, 1] := ⟨_, rfl⟩
      obtain ⟨everyL, hv⟩ : ∃ l : List Nat, l = List.range 16 := ⟨_, rfl⟩
      have tl : Tb K H8 lk (2 * en 2 false) lockL := ⟨by rw [hl]; exact tupT (s8 _ _ e7), by rw [hl]; decide, by rw [hl]; decide⟩
      have tv : Tb K H8 ev (2 * en 2 false) everyL := ⟨by rw [hv]; exact tupT e8, by rw [hv]; decide, by rw [hv]; decide⟩
      have ep : H8 sp = some (.ins C dx (spF 2 false)) := (s3.trans (s4.trans (s5.trans (s6.trans (s7.trans s8))))) _ _ e2
      clear s3 s4 s5 s6 s7 s8 e3 e4 e5 e6 e7 e8 n1 n2 n3 n4 nl nv
      -- told
      refine ⟨_, rfl, sp, dx, _, rfl, ep, noF, _, rfl, sp, lk, 2, false, lockL, rfl, ⟨by decide, dx, ep⟩, tl, fun H9 s9 => ?_⟩
      rw [show monoB (2 * en 2 false) (tf lockL) = true by rw [hl]; decide +kernel]
      refine ⟨_, rfl, sp, dx, _, rfl, s9 _ _ ep, noF, _, rfl, sp, ev, 2, false, everyL, rfl, ⟨by decide, dx, s9 _ _ ep⟩, tv.same s9, fun H10 s10 => ?_⟩
      rw [show monoB (2 * en 2 false) (tf everyL) = true by rw [hv]; decide +kernel]
      have sA := s9.trans s10
      refine ⟨_, rfl, sp, dx, _, rfl, sA _ _ ep, noF, by show 1 ≤ sizeLine; decide, fun q1 n1 => ?_⟩
      generalize hX : upd H10 q1 _ = H11
      have s11 : Same H10 H11 := by
        rw [← hX]
        exact same_upd n1
      have e11 := (congrFun hX q1).symm.trans upd_same
      clear hX
      refine ⟨by show 1 ≤ sizeLine; decide, fun q2 n2 => ?_⟩
      generalize hX : upd H11 q2 _ = H12
      have s12 : Same H11 H12 := by
        rw [← hX]
        exact same_upd n2
      have e12 := (congrFun hX q2).symm.trans upd_same
      clear hX
      refine ⟨q2, _, _, rfl, rfl, tupT e12, List.cons_ne_nil _ _, by decide, by decide, by show 1 ≤ 1000; decide, fun q3 n3 => ?_⟩
      generalize hX : upd H12 q3 _ = H13
      have s13 : Same H12 H13 := by
        rw [← hX]
        exact same_upd n3
      have e13 := (congrFun hX q3).symm.trans upd_same
      clear hX
      refine ⟨q1, q3, _, _, rfl, rfl, tupT ((s12.trans s13) _ _ e11), tupT e13, List.cons_ne_nil _ _, by decide, (fun z => by cases z), fun _ q4 n4 => ?_⟩
      generalize hX : upd H13 q4 _ = H14
      have s14 : Same H13 H14 := by
        rw [← hX]
        exact same_upd n4
      have e14 := (congrFun hX q4).symm.trans upd_same
      clear hX
      have sB := sA.trans (s11.trans (s12.trans (s13.trans s14)))
      refine ⟨sp, q4, 2, false, [1, 0, 0, 0, 0, 0, 0, 0, 0, 0, 0, 0, 0, 0, 0, 0], rfl, ⟨by decide, dx, sB _ _ ep⟩, ⟨tupT e14, by decide, by decide⟩, fun H15 s15 => ?_⟩
      rw [show monoB (2 * en 2 false) (tf [1, 0, 0, 0, 0, 0, 0, 0, 0, 0, 0, 0, 0, 0, 0, 0]) = false by decide +kernel]
      have sC := sB.trans s15
      refine ⟨by show 3 ≤ sizeLine; decide, fun l1 nl1 => ?_⟩
      generalize hX : upd H15 l1 _ = H16
      have s16 : Same H15 H16 := by
        rw [← hX]
        exact same_upd nl1
      have e16 := (congrFun hX l1).symm.trans upd_same
      clear hX
      refine ⟨_, rfl, by show 3 ≤ sizeLine; decide, fun l2 nl2 => ?_⟩
      generalize hX : upd H16 l2 _ = H17
      have s17 : Same H16 H17 := by
        rw [← hX]
        exact same_upd nl2
      have e17 := (congrFun hX l2).symm.trans upd_same
      clear hX
      have e16' := s17 _ _ e16
      refine ⟨.list [.bool true, .bool true, .bool false], .list [.bool true, .bool true, .bool false], .lst (.inl (.inl e16')) (.cons (.bl _) (.cons (.bl _) (.cons (.bl _) .nil))), .lst (.inl (.inl e17)) (.cons (.bl _) (.cons (.bl _) (.cons (.bl _) .nil))), rfl, rfl, ?_⟩
      rw [SeqAt.eqv_refl _ (by rfl)]
      refine ⟨_, rfl, iteT ?_⟩
      have sD := sC.trans (s16.trans s17)
      clear sA sB sC s9 s10 s11 s12 s13 s14 s15 s16 s17 e11 e12 e13 e14 e16 e16' e17
      refine ⟨_, rfl, sp, dx, _, rfl, sD _ _ ep, noF, _, rfl, _, rfl, sp, lk, ev, 2, false, lockL, everyL, rfl, ⟨by decide, dx, sD _ _ ep⟩, tl.same sD, tv.same sD, fun H18 w1 s18 t1 => ?_⟩
      rw [show everyL.map (tf lockL) = lockL by rw [hl, hv]; decide +kernel] at t1
      have sE := sD.trans s18
      refine ⟨_, rfl, tbD lockL, tbD lockL, dp_tb t1.sq, dp_tb (tl.same sE).sq, shaped_tb, shaped_tb, ?_⟩
      rw [eqv_tb]
      refine ⟨_, rfl, iteT ?_⟩
      refine ⟨_, rfl, sp, dx, _, rfl, sE _ _ ep, noF, _, rfl, _, rfl, sp, ev, lk, 2, false, everyL, lockL, rfl, ⟨by decide, dx, sE _ _ ep⟩, tv.same sE, tl.same sE, fun H19 w2 s19 t2 => ?_⟩
      rw [show lockL.map (tf everyL) = lockL by rw [hl, hv]; decide +kernel] at t2
      refine ⟨tbD lockL, tbD lockL, dp_tb (tl.same (sE.trans s19)).sq, dp_tb t2.sq, shaped_tb, shaped_tb, ?_⟩
      rw [eqv_tb]
      exact q _
end
end SQ

set_option Elab.async false
set_option linter.all false
set_option maxRecDepth 100000
set_option maxHeartbeats 8000000
namespace SQ
open PySem PySem.Spec PyProof.Rows L2
theorem all_mk {l : PySem.W.OpenLaw} {w : World} {K : PySem.W.Frag} {h : Heap} {mg : Str → Option Value} {fa C f1 f2 f3 f4 f5 f6 f7 f8 f9 f10 f11 f12 f13 f14 f15 f16 f17 f18 f19 f20 f21 f22  kD16 : Addr} (X : K.In h) (G : h.Ns mainGlobals mg) (hfa : mg "law" = some (.ref fa))
    {od1 an1 od2 an2 od3 an3 od4 an4 od5 an5 od6 an6 od7 an7 od8 an8 od9 an9 od10 an10 od11 an11 od12 an12 od13 an13 od14 an14 od15 an15 od16 an16 od17 an17 od18 an18 od19 an19 od20 an20 od21 an21 od22 an22 : Option Addr} {sl1 sl2 sl3 sl4 sl5 sl6 sl7 sl8 sl9 sl10 sl11 sl12 sl13 sl14 sl15 sl16 sl17 sl18 sl19 sl20 sl21 sl22 : Array (Option Value)} {oc1 dc1 pm1 cd1 ct1 kV1 oc2 dc2 pm2 cd2 ct2 kV2 oc3 dc3 pm3 cd3 ct3 kV3 oc4 dc4 pm4 cd4 ct4 kV4 oc5 dc5 pm5 cd5 ct5 kV5 oc6 dc6 pm6 cd6 ct6 kV6 oc7 dc7 pm7 cd7 ct7 kV7 oc8 dc8 pm8 cd8 ct8 kV8 oc9 dc9 pm9 cd9 ct9 kV9 oc10 dc10 pm10 cd10 ct10 kV10 oc11 dc11 pm11 cd11 ct11 kV11 oc12 dc12 pm12 cd12 ct12 kV12 oc13 dc13 pm13 cd13 ct13 kV13 oc14 dc14 pm14 cd14 ct14 kV14 oc15 dc15 pm15 cd15 ct15 kV15 oc16 dc16 pm16 cd16 ct16 oc17 dc17 pm17 cd17 ct17 kV17 oc18 dc18 pm18 cd18 ct18 kV18 oc19 dc19 pm19 cd19 ct19 kV19 oc20 dc20 pm20 cd20 ct20 kV20 oc21 dc21 pm21 cd21 ct21 kV21 oc22 dc22 pm22 cd22 ct22 kV22 : Value}
    {t_MAX_MODES : Tok}
    (a1 : PySem.W.nsIn K mainGlobals "is_integer_in" = some (some (.ref f1)))
    (l1 : K.lookup f1 = some ⟨oc1, od1, .func (PySem.W.fnOf "is_integer_in" "is_integer_in" (defArgs sis_integer_in) (defBody sis_integer_in) (defScope sis_integer_in) .none kV1 dc1 pm1 an1 cd1 ct1), sl1⟩)
    (c1 : PySem.W.codeIn K cd1 "is_integer_in" = true)
    (k1 : PySem.W.keepIn K (.ref f1) = true)
    (a2 : PySem.W.nsIn K mainGlobals "are_integers_below" = some (some (.ref f2)))
    (l2 : K.lookup f2 = some ⟨oc2, od2, .func (PySem.W.fnOf "are_integers_below" "are_integers_below" (defArgs sare_integers_below) (defBody sare_integers_below) (defScope sare_integers_below) .none kV2 dc2 pm2 an2 cd2 ct2), sl2⟩)
    (c2 : PySem.W.codeIn K cd2 "are_integers_below" = true)
    (k2 : PySem.W.keepIn K (.ref f2) = true)
    (a3 : PySem.W.nsIn K mainGlobals "is_growing" = some (some (.ref f3)))
    (l3 : K.lookup f3 = some ⟨oc3, od3, .func (PySem.W.fnOf "is_growing" "is_growing" (defArgs sis_growing) (defBody sis_growing) (defScope sis_growing) .none kV3 dc3 pm3 an3 cd3 ct3), sl3⟩)
    (c3 : PySem.W.codeIn K cd3 "is_growing" = true)
    (k3 : PySem.W.keepIn K (.ref f3) = true)
    (a4 : PySem.W.nsIn K mainGlobals "same_of" = some (some (.ref f4)))
    (l4 : K.lookup f4 = some ⟨oc4, od4, .func (PySem.W.fnOf "same_of" "same_of" (defArgs ssame_of) (defBody ssame_of) (defScope ssame_of) .none kV4 dc4 pm4 an4 cd4 ct4), sl4⟩)
    (c4 : PySem.W.codeIn K cd4 "same_of" = true)
    (k4 : PySem.W.keepIn K (.ref f4) = true)
    (a5 : PySem.W.nsIn K mainGlobals "_law_urn" = some (some (.ref f5)))
    (l5 : K.lookup f5 = some ⟨oc5, od5, .func (PySem.W.fnOf "_law_urn" "_law_urn" (defArgs s_law_urn) (defBody s_law_urn) (defScope s_law_urn) .none kV5 dc5 pm5 an5 cd5 ct5), sl5⟩)
    (c5 : PySem.W.codeIn K cd5 "_law_urn" = true)
    (k5 : PySem.W.keepIn K (.ref f5) = true)
    (a6 : PySem.W.nsIn K mainGlobals "_law_take" = some (some (.ref f6)))
    (l6 : K.lookup f6 = some ⟨oc6, od6, .func (PySem.W.fnOf "_law_take" "_law_take" (defArgs s_law_take) (defBody s_law_take) (defScope s_law_take) .none kV6 dc6 pm6 an6 cd6 ct6), sl6⟩)
    (c6 : PySem.W.codeIn K cd6 "_law_take" = true)
    (k6 : PySem.W.keepIn K (.ref f6) = true)
    (a7 : PySem.W.nsIn K mainGlobals "_law_one" = some (some (.ref f7)))
    (l7 : K.lookup f7 = some ⟨oc7, od7, .func (PySem.W.fnOf "_law_one" "_law_one" (defArgs s_law_one) (defBody s_law_one) (defScope s_law_one) .none kV7 dc7 pm7 an7 cd7 ct7), sl7⟩)
    (c7 : PySem.W.codeIn K cd7 "_law_one" = true)
    (k7 : PySem.W.keepIn K (.ref f7) = true)
    (a8 : PySem.W.nsIn K mainGlobals "_law_pairs" = some (some (.ref f8)))
    (l8 : K.lookup f8 = some ⟨oc8, od8, .func (PySem.W.fnOf "_law_pairs" "_law_pairs" (defArgs s_law_pairs) (defBody s_law_pairs) (defScope s_law_pairs) .none kV8 dc8 pm8 an8 cd8 ct8), sl8⟩)
    (c8 : PySem.W.codeIn K cd8 "_law_pairs" = true)
    (k8 : PySem.W.keepIn K (.ref f8) = true)
    (a9 : PySem.W.nsIn K mainGlobals "_law_bits" = some (some (.ref f9)))
    (l9 : K.lookup f9 = some ⟨oc9, od9, .func (PySem.W.fnOf "_law_bits" "_law_bits" (defArgs s_law_bits) (defBody s_law_bits) (defScope s_law_bits) .none kV9 dc9 pm9 an9 cd9 ct9), sl9⟩)
    (c9 : PySem.W.codeIn K cd9 "_law_bits" = true)
    (k9 : PySem.W.keepIn K (.ref f9) = true)
    (a10 : PySem.W.nsIn K mainGlobals "_law_within" = some (some (.ref f10)))
    (l10 : K.lookup f10 = some ⟨oc10, od10, .func (PySem.W.fnOf "_law_within" "_law_within" (defArgs s_law_within) (defBody s_law_within) (defScope s_law_within) .none kV10 dc10 pm10 an10 cd10 ct10), sl10⟩)
    (c10 : PySem.W.codeIn K cd10 "_law_within" = true)
    (k10 : PySem.W.keepIn K (.ref f10) = true)
    (a11 : PySem.W.nsIn K mainGlobals "_law_sizes" = some (some (.ref f11)))
    (l11 : K.lookup f11 = some ⟨oc11, od11, .func (PySem.W.fnOf "_law_sizes" "_law_sizes" (defArgs s_law_sizes) (defBody s_law_sizes) (defScope s_law_sizes) .none kV11 dc11 pm11 an11 cd11 ct11), sl11⟩)
    (c11 : PySem.W.codeIn K cd11 "_law_sizes" = true)
    (k11 : PySem.W.keepIn K (.ref f11) = true)
    (a12 : PySem.W.nsIn K mainGlobals "_law_is_monotone" = some (some (.ref f12)))
    (l12 : K.lookup f12 = some ⟨oc12, od12, .func (PySem.W.fnOf "_law_is_monotone" "_law_is_monotone" (defArgs s_law_is_monotone) (defBody s_law_is_monotone) (defScope s_law_is_monotone) .none kV12 dc12 pm12 an12 cd12 ct12), sl12⟩)
    (c12 : PySem.W.codeIn K cd12 "_law_is_monotone" = true)
    (k12 : PySem.W.keepIn K (.ref f12) = true)
    (a13 : PySem.W.nsIn K mainGlobals "_law_table" = some (some (.ref f13)))
    (l13 : K.lookup f13 = some ⟨oc13, od13, .func (PySem.W.fnOf "_law_table" "_law_table" (defArgs s_law_table) (defBody s_law_table) (defScope s_law_table) .none kV13 dc13 pm13 an13 cd13 ct13), sl13⟩)
    (c13 : PySem.W.codeIn K cd13 "_law_table" = true)
    (k13 : PySem.W.keepIn K (.ref f13) = true)
    (a14 : PySem.W.nsIn K mainGlobals "_law_right" = some (some (.ref f14)))
    (l14 : K.lookup f14 = some ⟨oc14, od14, .func (PySem.W.fnOf "_law_right" "_law_right" (defArgs s_law_right) (defBody s_law_right) (defScope s_law_right) .none kV14 dc14 pm14 an14 cd14 ct14), sl14⟩)
    (c14 : PySem.W.codeIn K cd14 "_law_right" = true)
    (k14 : PySem.W.keepIn K (.ref f14) = true)
    (a15 : PySem.W.nsIn K mainGlobals "law" = some (some (.ref f15)))
    (l15 : K.lookup f15 = some ⟨oc15, od15, .func (PySem.W.fnOf "law" "law" (defArgs slaw) (defBody slaw) (defScope slaw) .none kV15 dc15 pm15 an15 cd15 ct15), sl15⟩)
    (c15 : PySem.W.codeIn K cd15 "law" = true)
    (k15 : PySem.W.keepIn K (.ref f15) = true)
    (a16 : PySem.W.findIn K (.ref C) "__init__" = some (some (.ref f16)))
    (i16 : PySem.W.isFn K (.ref f16) = true)
    (l16 : K.lookup f16 = some ⟨oc16, od16, .func (PySem.W.fnOf "__init__" "Space.__init__" (defArgs sSpace__init__) (defBody sSpace__init__) (defScope sSpace__init__) .none (.ref kD16) dc16 pm16 an16 cd16 ct16), sl16⟩)
    (c16 : PySem.W.codeIn K cd16 "Space.__init__" = true)
    (k16 : PySem.W.keepIn K (.ref f16) = true)
    (w16_0 : PySem.W.nsIn K kD16 "watched" = some (some (.bool false)))
    (a17 : PySem.W.findIn K (.ref C) "is_table" = some (some (.ref f17)))
    (i17 : PySem.W.isFn K (.ref f17) = true)
    (l17 : K.lookup f17 = some ⟨oc17, od17, .func (PySem.W.fnOf "is_table" "Space.is_table" (defArgs sSpaceis_table) (defBody sSpaceis_table) (defScope sSpaceis_table) .none kV17 dc17 pm17 an17 cd17 ct17), sl17⟩)
    (c17 : PySem.W.codeIn K cd17 "Space.is_table" = true)
    (k17 : PySem.W.keepIn K (.ref f17) = true)
    (a18 : PySem.W.findIn K (.ref C) "is_monotone" = some (some (.ref f18)))
    (i18 : PySem.W.isFn K (.ref f18) = true)
    (l18 : K.lookup f18 = some ⟨oc18, od18, .func (PySem.W.fnOf "is_monotone" "Space.is_monotone" (defArgs sSpaceis_monotone) (defBody sSpaceis_monotone) (defScope sSpaceis_monotone) .none kV18 dc18 pm18 an18 cd18 ct18), sl18⟩)
    (c18 : PySem.W.codeIn K cd18 "Space.is_monotone" = true)
    (k18 : PySem.W.keepIn K (.ref f18) = true)
    (a19 : PySem.W.findIn K (.ref C) "composed" = some (some (.ref f19)))
    (i19 : PySem.W.isFn K (.ref f19) = true)
    (l19 : K.lookup f19 = some ⟨oc19, od19, .func (PySem.W.fnOf "composed" "Space.composed" (defArgs sSpacecomposed) (defBody sSpacecomposed) (defScope sSpacecomposed) .none kV19 dc19 pm19 an19 cd19 ct19), sl19⟩)
    (c19 : PySem.W.codeIn K cd19 "Space.composed" = true)
    (k19 : PySem.W.keepIn K (.ref f19) = true)
    (a20 : PySem.W.findIn K (.ref C) "_check_table" = some (some (.ref f20)))
    (i20 : PySem.W.isFn K (.ref f20) = true)
    (l20 : K.lookup f20 = some ⟨oc20, od20, .func (PySem.W.fnOf "_check_table" "Space._check_table" (defArgs sSpace_check_table) (defBody sSpace_check_table) (defScope sSpace_check_table) .none kV20 dc20 pm20 an20 cd20 ct20), sl20⟩)
    (c20 : PySem.W.codeIn K cd20 "Space._check_table" = true)
    (k20 : PySem.W.keepIn K (.ref f20) = true)
    (a21 : PySem.W.findIn K (.ref C) "__eq__" = some (some (.ref f21)))
    (i21 : PySem.W.isFn K (.ref f21) = true)
    (l21 : K.lookup f21 = some ⟨oc21, od21, .func (PySem.W.fnOf "__eq__" "Space.__eq__" (defArgs sSpace__eq__) (defBody sSpace__eq__) (defScope sSpace__eq__) .none kV21 dc21 pm21 an21 cd21 ct21), sl21⟩)
    (c21 : PySem.W.codeIn K cd21 "Space.__eq__" = true)
    (k21 : PySem.W.keepIn K (.ref f21) = true)
    (a22 : PySem.W.findIn K (.ref C) "__str__" = some (some (.ref f22)))
    (i22 : PySem.W.isFn K (.ref f22) = true)
    (l22 : K.lookup f22 = some ⟨oc22, od22, .func (PySem.W.fnOf "__str__" "Space.__str__" (defArgs sSpace__str__) (defBody sSpace__str__) (defScope sSpace__str__) .none kV22 dc22 pm22 an22 cd22 ct22), sl22⟩)
    (c22 : PySem.W.codeIn K cd22 "Space.__str__" = true)
    (k22 : PySem.W.keepIn K (.ref f22) = true)
    (z_isinstance : PySem.W.nsIn K mainGlobals "isinstance" = some none)
    (z_int : PySem.W.nsIn K mainGlobals "int" = some none)
    (z_bool : PySem.W.nsIn K mainGlobals "bool" = some none)
    (z_str : PySem.W.nsIn K mainGlobals "str" = some none)
    (z_tuple : PySem.W.nsIn K mainGlobals "tuple" = some none)
    (z_list : PySem.W.nsIn K mainGlobals "list" = some none)
    (z_len : PySem.W.nsIn K mainGlobals "len" = some none)
    (z_all : PySem.W.nsIn K mainGlobals "all" = some none)
    (z_sum : PySem.W.nsIn K mainGlobals "sum" = some none)
    (z_set : PySem.W.nsIn K mainGlobals "set" = some none)
    (z_range : PySem.W.nsIn K mainGlobals "range" = some none)
    (z_abs : PySem.W.nsIn K mainGlobals "abs" = some none)
    (z_max : PySem.W.nsIn K mainGlobals "max" = some none)
    (z_min : PySem.W.nsIn K mainGlobals "min" = some none)
    (z_sorted : PySem.W.nsIn K mainGlobals "sorted" = some none)
    (z_divmod : PySem.W.nsIn K mainGlobals "divmod" = some none)
    (z_repr : PySem.W.nsIn K mainGlobals "repr" = some none)
    (z_zip : PySem.W.nsIn K mainGlobals "zip" = some none)
    (z_enumerate : PySem.W.nsIn K mainGlobals "enumerate" = some none)
    (y_MAX_MODES : PySem.W.nsIn K mainGlobals "MAX_MODES" = some (some (.int 3 t_MAX_MODES)))
    (aC : PySem.W.nsIn K mainGlobals "Space" = some (some (.ref C)))
    (qpg : PySem.W.plainGet K C Str.empty = true)
    (qhd : PySem.W.hasDictIn K C = true)
    (qpo : PySem.W.plainOver K C = true)
    (qsa : PySem.W.findIn K (.ref C) "__setattr__" = some (some (.builtin "object.__setattr__")))
    (qmk : PySem.W.makesIn K C = true)
    (qkc : PySem.W.keepIn K (.ref C) = true)
    (n_modes : PySem.W.findIn K (.ref C) "_modes" = some none)
    (n_watched : PySem.W.findIn K (.ref C) "_watched" = some none)
    (n_ends : PySem.W.findIn K (.ref C) "_ends" = some none)
    (n_size : PySem.W.findIn K (.ref C) "_size" = some none)
    (n_same : PySem.W.findIn K (.ref C) "_same" = some none)
    (qha : PySem.W.findIn K (.ref C) "__class__" = some (some (.builtin "object.__class__")))
    (qhn : PySem.W.specialIn K (.builtin "object.__class__") "__get__" = some (some (.builtin "getset_descriptor.__get__")))
    (qht : PySem.W.takesIn K (.builtin "object.__class__") = some true)
    (qhm : PySem.W.mroIn K C (.type "object") = some true)
    (qis : PySem.W.isClsIn K C = true)
    (qty : PySem.W.typeIn K (.ref C) = some (.type "type"))
    (qne : PySem.W.findIn K (.ref C) "__ne__" = some (some (.builtin "object.__ne__")))
    (u_tuple : PySem.W.subIn K (.type "tuple") (.ref C) = some false)
    (v_tuple : PySem.W.notFirst K C (.type "tuple") = true)
    (v_self : PySem.W.notFirst K C (.ref C) = true)
    : ∃ fd : FuncData, (∀ (s : Shared) (v : Value), BindsTo s fd ⟨[v], []⟩ [("_law_script", v)]) ∧ ∀ base : Heap, K.In base → base.Ns mainGlobals mg → FnOk l.prog w K mg base CX0 8 fa fd ["_law_script"] (spLaw K) := by
  have e := hfa.symm.trans (PySem.W.mg_of X G a15)
  cases e
  have T : Nm mg := ⟨PySem.W.mg_none_of X G z_isinstance, PySem.W.mg_none_of X G z_int, PySem.W.mg_none_of X G z_bool, PySem.W.mg_none_of X G z_str, PySem.W.mg_none_of X G z_tuple, PySem.W.mg_none_of X G z_list, PySem.W.mg_none_of X G z_len, PySem.W.mg_none_of X G z_all, PySem.W.mg_none_of X G z_sum, PySem.W.mg_none_of X G z_set, PySem.W.mg_none_of X G z_range, PySem.W.mg_none_of X G z_abs, PySem.W.mg_none_of X G z_max, PySem.W.mg_none_of X G z_min, PySem.W.mg_none_of X G z_sorted, PySem.W.mg_none_of X G z_divmod, PySem.W.mg_none_of X G z_repr, PySem.W.mg_none_of X G z_zip, ⟨_, PySem.W.mg_of X G y_MAX_MODES⟩⟩
  have F1 := fun_mk (st := sis_integer_in) l1 c1 k1
  have b1 := F1.binds (ps := ["value", "least", "greatest"]) fun _ _ _ _ _ _ us hl => match us, hl with | [_, _, _], _ => rfl
  have F2 := fun_mk (st := sare_integers_below) l2 c2 k2
  have b2 := F2.binds (ps := ["values", "limit"]) fun _ _ _ _ _ _ us hl => match us, hl with | [_, _], _ => rfl
  have F3 := fun_mk (st := sis_growing) l3 c3 k3
  have b3 := F3.binds (ps := ["table", "bits"]) fun _ _ _ _ _ _ us hl => match us, hl with | [_, _], _ => rfl
  have F4 := fun_mk (st := ssame_of) l4 c4 k4
  have b4 := F4.binds (ps := ["modes", "ends"]) fun _ _ _ _ _ _ us hl => match us, hl with | [_, _], _ => rfl
  have F5 := fun_mk (st := s_law_urn) l5 c5 k5
  have b5 := F5.binds (ps := ["_law_script", "_law_at"]) fun _ _ _ _ _ _ us hl => match us, hl with | [_, _], _ => rfl
  have F6 := fun_mk (st := s_law_take) l6 c6 k6
  have b6 := F6.binds (ps := ["_law_urn_here", "_law_total"]) fun _ _ _ _ _ _ us hl => match us, hl with | [_, _], _ => rfl
  have F7 := fun_mk (st := s_law_one) l7 c7 k7
  have b7 := F7.binds (ps := ["_law_urn_here", "_law_items"]) fun _ _ _ _ _ _ us hl => match us, hl with | [_, _], _ => rfl
  have F8 := fun_mk (st := s_law_pairs) l8 c8 k8
  have b8 := F8.binds (ps := ["_law_ends_here", "_law_relation"]) fun _ _ _ _ _ _ us hl => match us, hl with | [_, _], _ => rfl
  have F9 := fun_mk (st := s_law_bits) l9 c9 k9
  have b9 := F9.binds (ps := ["_law_ends_here", "_law_pairs_here"]) fun _ _ _ _ _ _ us hl => match us, hl with | [_, _], _ => rfl
  have F10 := fun_mk (st := s_law_within) l10 c10 k10
  have b10 := F10.binds (ps := ["_law_one_here", "_law_other"]) fun _ _ _ _ _ _ us hl => match us, hl with | [_, _], _ => rfl
  have F11 := fun_mk (st := s_law_sizes) l11 c11 k11
  have b11 := F11.binds (ps := ["_law_modes", "_law_watched"]) fun _ _ _ _ _ _ us hl => match us, hl with | [_, _], _ => rfl
  have F12 := fun_mk (st := s_law_is_monotone) l12 c12 k12
  have b12 := F12.binds (ps := ["_law_sizes_here", "_law_table_here"]) fun _ _ _ _ _ _ us hl => match us, hl with | [_, _], _ => rfl
  have F13 := fun_mk (st := s_law_table) l13 c13 k13
  have b13 := F13.binds (ps := ["_law_urn_here", "_law_sizes_here"]) fun _ _ _ _ _ _ us hl => match us, hl with | [_, _], _ => rfl
  have F14 := fun_mk (st := s_law_right) l14 c14 k14
  have b14 := F14.binds (ps := ["_law_urn_here"]) fun _ _ _ _ _ _ us hl => match us, hl with | [_], _ => rfl
  have F15 := fun_mk (st := slaw) l15 c15 k15
  have b15 := F15.binds (ps := ["_law_script"]) fun _ _ _ _ _ _ us hl => match us, hl with | [_], _ => rfl
  have F16 : FunD K "__init__" "Space.__init__" (defArgs sSpace__init__) (defBody sSpace__init__) (defScope sSpace__init__) [] [("watched", .bl false)] f16 _ := ⟨⟨_, _, _, _, _, _, _, _, _, _, rfl, l16, c16, .inl ⟨rfl, rfl⟩, .inr ⟨_, rfl, fun q hq => by
    cases List.mem_singleton.mp hq
    exact ⟨_, w16_0, rfl⟩⟩⟩, k16⟩
  have F17 := fun_mk (st := sSpaceis_table) l17 c17 k17
  have b17 := F17.binds (ps := ["self", "value"]) fun _ _ _ _ _ _ us hl => match us, hl with | [_, _], _ => rfl
  have F18 := fun_mk (st := sSpaceis_monotone) l18 c18 k18
  have b18 := F18.binds (ps := ["self", "table"]) fun _ _ _ _ _ _ us hl => match us, hl with | [_, _], _ => rfl
  have F19 := fun_mk (st := sSpacecomposed) l19 c19 k19
  have b19 := F19.binds (ps := ["self", "one", "other"]) fun _ _ _ _ _ _ us hl => match us, hl with | [_, _, _], _ => rfl
  have F20 := fun_mk (st := sSpace_check_table) l20 c20 k20
  have b20 := F20.binds (ps := ["self", "value"]) fun _ _ _ _ _ _ us hl => match us, hl with | [_, _], _ => rfl
  have F21 := fun_mk (st := sSpace__eq__) l21 c21 k21
  have b21 := F21.binds (ps := ["self", "other"]) fun _ _ _ _ _ _ us hl => match us, hl with | [_, _], _ => rfl
  have F22 := fun_mk (st := sSpace__str__) l22 c22 k22
  have b22 := F22.binds (ps := ["self"]) fun _ _ _ _ _ _ us hl => match us, hl with | [_], _ => rfl
  refine ⟨PySem.W.fnOf "law" "law" (defArgs slaw) (defBody slaw) (defScope slaw) .none kV15 dc15 pm15 an15 cd15 ct15, fun s v => .of_eq rfl, fun base _ _ => ?_⟩
  have C_is_integer_in : Cal l.prog w K mg base 2 "is_integer_in" ["value", "least", "greatest"] (spIntIn K) := ⟨_, _, ok_is_integer_in F1 T, (PySem.W.mg_of X G a1), k1, b1⟩
  have C_are_integers_below : Cal l.prog w K mg base 1 "are_integers_below" ["values", "limit"] (spBelow K) := ⟨_, _, ok_are_integers_below F2 T, (PySem.W.mg_of X G a2), k2, b2⟩
  have C_is_growing : Cal l.prog w K mg base 1 "is_growing" ["table", "bits"] (spGrow K) := ⟨_, _, ok_is_growing F3 T (PySem.W.mg_none_of X G z_enumerate), (PySem.W.mg_of X G a3), k3, b3⟩
  have C_same_of : Cal l.prog w K mg base 1 "same_of" ["modes", "ends"] (spSame) := ⟨_, _, ok_same_of F4 T, (PySem.W.mg_of X G a4), k4, b4⟩
  have PC : SpC K mg C := ⟨⟨qpg, qhd, qpo, qsa⟩, PySem.W.mg_of X G aC, n_modes, n_watched, n_ends, n_size, n_same, qha, qhn, qht, qhm, kit_self, kit_own qis qty u_tuple, v_tuple, v_self⟩
  have M_is_table : MCal l.prog w K mg base C 4 "is_table" ["self", "value"] (spIsTbl C K) := ⟨_, _, ok_Spaceis_table F17 T PC C_are_integers_below, ⟨a17, i17, k17⟩, b17⟩
  have M__check_table : MCal l.prog w K mg base C 5 "_check_table" ["self", "value"] (spChkTbl C K) := ⟨_, _, ok_Space_check_table F20 T PC M_is_table, ⟨a20, i20, k20⟩, b20⟩
  have M_composed : MCal l.prog w K mg base C 6 "composed" ["self", "one", "other"] (spComp C K) := ⟨_, _, ok_Spacecomposed F19 T PC M__check_table, ⟨a19, i19, k19⟩, b19⟩
  have M_is_monotone : MCal l.prog w K mg base C 6 "is_monotone" ["self", "table"] (spMono C K) := ⟨_, _, ok_Spaceis_monotone F18 T PC M__check_table C_is_growing, ⟨a18, i18, k18⟩, b18⟩
  have ib := init_binds F16
  have SM : SpM l.prog w K mg base C := ⟨PC, ⟨_, _, ok_Space__init__ F16 T PC C_is_integer_in C_same_of, ⟨qmk, a16, i16, qkc⟩, ib.1, ib.2⟩, ⟨_, _, ok_Space__eq__ F21 T PC, b21, a21, i21⟩, qne, ⟨_, _, ok_Space__str__ F22 T PC, b22, a22, i22⟩⟩
  have C__law_urn : Cal l.prog w K mg base 1 "_law_urn" ["_law_script", "_law_at"] (spUrn K) := ⟨_, _, ok_l_urn F5 T, (PySem.W.mg_of X G a5), k5, b5⟩
  have C__law_take : Cal l.prog w K mg base 1 "_law_take" ["_law_urn_here", "_law_total"] (spTake) := ⟨_, _, ok_l_take F6 T, (PySem.W.mg_of X G a6), k6, b6⟩
  have C__law_one : Cal l.prog w K mg base 2 "_law_one" ["_law_urn_here", "_law_items"] (spOne K) := ⟨_, _, ok_l_one F7 T C__law_take, (PySem.W.mg_of X G a7), k7, b7⟩
  have C__law_pairs : Cal l.prog w K mg base 1 "_law_pairs" ["_law_ends_here", "_law_relation"] (spPairsL K) := ⟨_, _, ok_l_pairs F8 T, (PySem.W.mg_of X G a8), k8, b8⟩
  have C__law_bits : Cal l.prog w K mg base 1 "_law_bits" ["_law_ends_here", "_law_pairs_here"] (spBits K) := ⟨_, _, ok_l_bits F9 T, (PySem.W.mg_of X G a9), k9, b9⟩
  have C__law_sizes : Cal l.prog w K mg base 1 "_law_sizes" ["_law_modes", "_law_watched"] (spSizes) := ⟨_, _, ok_l_sizes F11 T, (PySem.W.mg_of X G a11), k11, b11⟩
  have C__law_within : Cal l.prog w K mg base 1 "_law_within" ["_law_one_here", "_law_other"] (spWithin K) := ⟨_, _, ok_l_within F10 T, (PySem.W.mg_of X G a10), k10, b10⟩
  have C__law_is_monotone : Cal l.prog w K mg base 2 "_law_is_monotone" ["_law_sizes_here", "_law_table_here"] (spLMono K) := ⟨_, _, ok_l_is_monotone F12 T C__law_pairs C__law_within, (PySem.W.mg_of X G a12), k12, b12⟩
  have C__law_table : Cal l.prog w K mg base 2 "_law_table" ["_law_urn_here", "_law_sizes_here"] (spTable K) := ⟨_, _, ok_l_table F13 T C__law_take C__law_pairs C__law_bits C__law_within, (PySem.W.mg_of X G a13), k13, b13⟩
  have C__law_right : Cal l.prog w K mg base 7 "_law_right" ["_law_urn_here"] (spRight) := ⟨_, _, ok_l_right F14 T SM C__law_take C__law_one C__law_sizes C__law_is_monotone C__law_table M_is_table M_is_monotone M_composed, (PySem.W.mg_of X G a14), k14, b14⟩
  exact ok_law F15 T SM M_is_monotone M_composed C__law_urn C__law_right
end SQ

set_option Elab.async false
set_option linter.all false
set_option maxRecDepth 100000
open PySem PySem.W PyProof.Rows
set_option maxHeartbeats 0 in
theorem PySem.Challenge.cw_blockshanded_k22_tables_holds : PySem.Challenge.rw_blockshanded_k22_tables.Holds := by
  w_on; o_law; k_head; (case hw => w_witness2)
  k_fill
  refine L2.walk_of (l := PySem.Challenge.rw_blockshanded_k22_tables) (n := 63) (k := 8) (x := "_law_script") (CX := fun _ => L2.CX0) (sp := fun w => SQ.spLaw _) rfl (by decide) rfl ⟨rfl, by decide, by decide⟩ (fun w h Y => PySem.W.kIn_of Y) ?F (fun _ _ a ns hl _ hS => ⟨a, ns, rfl, hS, hl, fun _ => rfl⟩) (fun _ _ _ _ _ h => h)
  case F =>
    intro w mg fa h KX G hmg
    refine' SQ.all_mk KX G hmg ?a1 ?l1 ?c1 ?k1 ?a2 ?l2 ?c2 ?k2 ?a3 ?l3 ?c3 ?k3 ?a4 ?l4 ?c4 ?k4 ?a5 ?l5 ?c5 ?k5 ?a6 ?l6 ?c6 ?k6 ?a7 ?l7 ?c7 ?k7 ?a8 ?l8 ?c8 ?k8 ?a9 ?l9 ?c9 ?k9 ?a10 ?l10 ?c10 ?k10 ?a11 ?l11 ?c11 ?k11 ?a12 ?l12 ?c12 ?k12 ?a13 ?l13 ?c13 ?k13 ?a14 ?l14 ?c14 ?k14 ?a15 ?l15 ?c15 ?k15 ?a16 ?i16 ?l16 ?c16 ?k16 ?w16_0 ?a17 ?i17 ?l17 ?c17 ?k17 ?a18 ?i18 ?l18 ?c18 ?k18 ?a19 ?i19 ?l19 ?c19 ?k19 ?a20 ?i20 ?l20 ?c20 ?k20 ?a21 ?i21 ?l21 ?c21 ?k21 ?a22 ?i22 ?l22 ?c22 ?k22 ?z_isinstance ?z_int ?z_bool ?z_str ?z_tuple ?z_list ?z_len ?z_all ?z_sum ?z_set ?z_range ?z_abs ?z_max ?z_min ?z_sorted ?z_divmod ?z_repr ?z_zip ?z_enumerate ?y_MAX_MODES ?aC ?qpg ?qhd ?qpo ?qsa ?qmk ?qkc ?n_modes ?n_watched ?n_ends ?n_size ?n_same ?qha ?qhn ?qht ?qhm ?qis ?qty ?qne ?u_tuple ?v_tuple ?v_self
    (case aC => k_is)
    (case a1 => k_is)
    (case l1 => k_is)
    (case c1 => k_is)
    (case k1 => k_is)
    (case a2 => k_is)
    (case l2 => k_is)
    (case c2 => k_is)
    (case k2 => k_is)
    (case a3 => k_is)
    (case l3 => k_is)
    (case c3 => k_is)
    (case k3 => k_is)
    (case a4 => k_is)
    (case l4 => k_is)
    (case c4 => k_is)
    (case k4 => k_is)
    (case a5 => k_is)
    (case l5 => k_is)
    (case c5 => k_is)
    (case k5 => k_is)
    (case a6 => k_is)
    (case l6 => k_is)
    (case c6 => k_is)
    (case k6 => k_is)
    (case a7 => k_is)
    (case l7 => k_is)
    (case c7 => k_is)
    (case k7 => k_is)
    (case a8 => k_is)
    (case l8 => k_is)
    (case c8 => k_is)
    (case k8 => k_is)
    (case a9 => k_is)
    (case l9 => k_is)
    (case c9 => k_is)
    (case k9 => k_is)
    (case a10 => k_is)
    (case l10 => k_is)
    (case c10 => k_is)
    (case k10 => k_is)
    (case a11 => k_is)
    (case l11 => k_is)
    (case c11 => k_is)
    (case k11 => k_is)
    (case a12 => k_is)
    (case l12 => k_is)
    (case c12 => k_is)
    (case k12 => k_is)
    (case a13 => k_is)
    (case l13 => k_is)
    (case c13 => k_is)
    (case k13 => k_is)
    (case a14 => k_is)
    (case l14 => k_is)
    (case c14 => k_is)
    (case k14 => k_is)
    (case a15 => k_is)
    (case l15 => k_is)
    (case c15 => k_is)
    (case k15 => k_is)
    (case a16 => k_is)
    (case i16 => k_is)
    (case l16 => k_is)
    (case c16 => k_is)
    (case k16 => k_is)
    (case w16_0 => k_is)
    (case a17 => k_is)
    (case i17 => k_is)
    (case l17 => k_is)
    (case c17 => k_is)
    (case k17 => k_is)
    (case a18 => k_is)
    (case i18 => k_is)
    (case l18 => k_is)
    (case c18 => k_is)
    (case k18 => k_is)
    (case a19 => k_is)
    (case i19 => k_is)
    (case l19 => k_is)
    (case c19 => k_is)
    (case k19 => k_is)
    (case a20 => k_is)
    (case i20 => k_is)
    (case l20 => k_is)
    (case c20 => k_is)
    (case k20 => k_is)
    (case a21 => k_is)
    (case i21 => k_is)
    (case l21 => k_is)
    (case c21 => k_is)
    (case k21 => k_is)
    (case a22 => k_is)
    (case i22 => k_is)
    (case l22 => k_is)
    (case c22 => k_is)
    (case k22 => k_is)
    (case z_isinstance => k_is)
    (case z_int => k_is)
    (case z_bool => k_is)
    (case z_str => k_is)
    (case z_tuple => k_is)
    (case z_list => k_is)
    (case z_len => k_is)
    (case z_all => k_is)
    (case z_sum => k_is)
    (case z_set => k_is)
    (case z_range => k_is)
    (case z_abs => k_is)
    (case z_max => k_is)
    (case z_min => k_is)
    (case z_sorted => k_is)
    (case z_divmod => k_is)
    (case z_repr => k_is)
    (case z_zip => k_is)
    (case z_enumerate => k_is)
    (case y_MAX_MODES => k_is)
    (case qpg => k_is)
    (case qhd => k_is)
    (case qpo => k_is)
    (case qsa => k_is)
    (case qmk => k_is)
    (case qkc => k_is)
    (case n_modes => k_is)
    (case n_watched => k_is)
    (case n_ends => k_is)
    (case n_size => k_is)
    (case n_same => k_is)
    (case qha => k_is)
    (case qhn => k_is)
    (case qht => k_is)
    (case qhm => k_is)
    (case qis => k_is)
    (case qty => k_is)
    (case qne => k_is)
    (case u_tuple => first | k_is | rfl)
    (case v_tuple => k_is)
    (case v_self => k_is)

