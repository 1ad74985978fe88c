import PyProof.Rows.All
import Wide.All
import OpenK.AllK
import Wide.FinOn
import HandS.ForMost
import HandS.IsInst
import HandS.RaiseMore
import HandS.Walk
import HandS.TupSets
import HandS.WideBits
import HandS.OwnEq
import HandS.Property
import HandS.MakeKwOnly
import HandS.FStr
import HandS.Sort
import KE.KCallOwn
import PyProof.InstNe
import PyProof.Rows.InDataRows
import HandS.Style
import HandS.Deep
import PySem.Challenge.RW_blockshanded_k20_relations_by_their_pair
set_option Elab.async false
set_option linter.all false
set_option maxRecDepth 100000
set_option maxHeartbeats 6400000
/-! set(a tuple of tuples of ints), and its length -/
namespace SQ
open PySem PySem.Spec PyProof.Rows L2
section
variable {P : Program} {w : World} {A : Around} {E : Value → Shared → Prop} {s : Shared}
theorem none_at {h : Heap} {b : Addr} (hb : h.objs.size ≤ b) : h.get? b = none := by
  cases q : h.get? b with
  | none => rfl
  | some o => exact absurd (Nat.lt_of_lt_of_le (Heap.lt_size q) hb) (Nat.lt_irrefl _)
theorem made {l : Addr} {items : Array Value} {ks : List (Addr × List Int)} {Q : Value → Shared → Prop} (hh : A.handled = none) (hl : s.heap.IsTuple l items) (hit : items.toList = ks.map fun p => Value.ref p.1) (hk : ∀ p ∈ ks, IsT P w s.heap p.2 p.1) (few : ks.length < 64) (hu : A.units + 3 < cLine)
    (h : ∀ (h' : Heap) (tk : Nat) L es ep t, SetTR P w h' s.heap.objs.size L es ep t → L2.Got ks ks.length L → (∀ b o, s.heap.get? b = some o → h'.get? b = some o) → Q (.ref s.heap.objs.size) { s with heap := h', toks := tk }) :
    wpAny (model P w) A (call (.type "set") [.ref l]) Q E s := by
  have hisz : items.size = ks.length := by
    rw [← Array.length_toList, hit, List.length_map]
  obtain ⟨c, tl, hmro⟩ := PySem.F.called_set.mro
  have hmade := PySem.F.called_set.made
  have hsub := PySem.F.called_set.sub
  refine wpAny_call (codeAny_of_tree ?_)
  show wpAny _ _ (callAny (.type "set") _) _ _ _
  refine wpAny_pure ⟨Code.quiet_builtin _ (by decide +kernel), codeAny_builtin PySem.F.entry_type_call ?_⟩
  rw [Around.under_plain (weight_type_call_type "set" [.ref l] []) rfl]
  have h1 := PySem.F.called_set.notType
  have h2 := PySem.F.called_set.canCreate
  have hct := PySem.F.typeCall_set_1 (.ref l)
  repeat (any_goals (first | assumption | wp_step))
  refine codeAny_mono (L2.code_set_led1 (.ref l) (E := E) (Q₁ := fun obj s₁ => obj = .ref s.heap.objs.size ∧ s₁ = { s with heap := s.heap.push { cls := .type "set", dict := none, data := .set #[] 0 (.fresh 0 0 (!w.params.followText "set-order")) } }) ⟨rfl, rfl⟩) fun r s₁ hr => ?_
  cases r with
  | error e => exact hr
  | ok fl =>
    cases fl with
    | ret obj =>
      obtain ⟨rfl, rfl⟩ := hr
      have hS : (s.heap.push { cls := .type "set", dict := none, data := .set #[] 0 (.fresh 0 0 (!w.params.followText "set-order")) }).get? s.heap.objs.size = some { cls := .type "set", dict := none, data := .set #[] 0 (.fresh 0 0 (!w.params.followText "set-order")) } := Heap.get?_push_size _ rfl
      have hT : Shared.TypeIs { s with heap := s.heap.push { cls := .type "set", dict := none, data := .set #[] 0 (.fresh 0 0 (!w.params.followText "set-order")) } } (.ref s.heap.objs.size) "set" := ⟨_, hS, rfl⟩
      have hli := PySem.F.called_set.init.lookup
      have hbi := PySem.F.called_set.init.bind (.ref s.heap.objs.size)
      repeat (any_goals (first | assumption | wp_step))
      refine codeAny_mono (codeAny_call_builtin (R := wants (fun r s₂ => r = .none ∧ ∃ h' tk L es ep t, s₂ = { s with heap := h', toks := tk } ∧ SetTR P w h' s.heap.objs.size L es ep t ∧ L2.Got ks ks.length L ∧
          (∀ b o, s.heap.get? b = some o → h'.get? b = some o)) E) PySem.F.called_set.init.plain PySem.F.entry_set_init (check_set_init_1 hT ?_)) fun r₂ s₂ hr₂ => ?_
      · obtain ⟨ol, hol, hcl, nl, hdl⟩ := hl
        obtain ⟨ocls, odict, odata, oslots⟩ := ol
        simp only at hcl hdl
        subst hcl; subst hdl
        have hol' : (s.heap.push { cls := .type "set", dict := none, data := .set #[] 0 (.fresh 0 0 (!w.params.followText "set-order")) }).get? l = some { cls := .type "tuple", dict := odict, data := .seq items nl, slots := oslots } := Heap.get?_push_of_some _ hol
        have hsls := PySem.F.sub_tuple_set
        have hslf := PySem.F.sub_tuple_frozenset
        have hne : (Value.type "tuple" == Value.type "dict") = false := by decide
        have hl1 : (s.heap.push { cls := .type "set", dict := none, data := .set #[] 0 (.fresh 0 0 (!w.params.followText "set-order")) }).IsTuple l items := ⟨_, hol', rfl, nl, rfl⟩
        unfold Builtin.«set.__init__» noKeywords Builtin.Frozenset.updateFrom
        generalize hPI : pyIter = PI
        wp_walk
        subst hPI
        refine wpAny_pyIter_tuple hl1 ?_
        refine wpAny_bind (wpAny_runValue ?_)
        have hlS : l < s.heap.objs.size := Heap.lt_size hol
        have hh3 : A.in1.in1.in1.handled = none := by simp [hh]
        have hneI : l ≠ (s.heap.push { cls := .type "set", dict := none, data := .set #[] 0 (.fresh 0 0 (!w.params.followText "set-order")) }).objs.size := by
          rw [Heap.size_push]; exact Nat.ne_of_lt (Nat.lt_succ_of_lt hlS)
        have hSf : s.heap.objs.size ∉ [(s.heap.push { cls := .type "set", dict := none, data := .set #[] 0 (.fresh 0 0 (!w.params.followText "set-order")) }).objs.size, l] := by
          rw [Heap.size_push]; simp only [List.mem_cons, List.not_mem_nil, or_false, not_or]
          exact ⟨Nat.ne_of_lt (Nat.lt_succ_self _), Nat.ne_of_gt hlS⟩
        have hval : ∀ (i : Nat) (v : Value), items[i]? = some v → ∃ p, ks[i]? = some p ∧ v = .ref p.1 := fun i v hv => by
          have q : items.toList[i]? = some v := by rw [Array.getElem?_toList]; exact hv
          rw [hit, List.getElem?_map] at q
          obtain ⟨p, e1, e2⟩ := Option.map_eq_some_iff.mp q
          exact ⟨p, e1, e2.symm⟩
        refine set_update_tups ((Walks.tuple hh3 _ l hneI items).toS) s.heap.objs.size
          hSf ks hisz few hval s.heap hk (none_at (Nat.le_refl _)) (fun b hb => none_at (by
            rw [List.mem_singleton.mp hb, Heap.size_push]
            exact Nat.le_succ _)) hu (items.size - 0) 0 _ (by omega) (Nat.zero_le _)
          ⟨⟨_, Heap.get?_push_size _ rfl, rfl, rfl⟩, (hl1.push _)⟩ (fun b o e => Heap.get?_push_of_some _ (Heap.get?_push_of_some _ e)) ?hS0 ?hR
        case hS0 => exact ⟨[], #[], 0, _, setTR_fresh (Heap.get?_push_of_some _ hS), L2.Got.zero ks⟩
        case hR =>
          intro s' L es ep t hm hS' g' hkp
          obtain ⟨h', g2, d', tk', os'⟩ := s'
          have eg : g2 = s.gens := hm.gens
          have ed : d' = s.drawn := hm.drawn
          have eo : os' = s.os := hm.os
          subst eg; subst ed; subst eo
          show wpAny _ _ _ _ _ _
          refine wpAny_pure ?_
          show wpAny _ _ (ret Value.none) _ _ _
          rw [hisz] at g'
          exact wpAny_pure ⟨rfl, h', tk', L, es, ep, t, rfl, hS', g', hkp⟩
      · cases r₂ with
        | error e => exact hr₂
        | ok fl₂ =>
          cases fl₂ with
          | ret r =>
            obtain ⟨rfl, h', tk, L, es, ep, t, rfl, hS', g', hk'⟩ := hr₂
            repeat (any_goals (first | assumption | wp_step))
            exact h _ _ _ _ _ _ hS' g' hk'
          | _ => exact hr₂.elim
    | _ => exact hr.elim
end
section
variable {X : Cx}
theorem nodup_few {α : Type} [DecidableEq α] : ∀ (l D : List α), l.Nodup → (∀ x ∈ l, x ∈ D) → l.length ≤ D.length
  | [], _, _, _ => Nat.zero_le _
  | x :: l, D, hn, hs => by
    have ⟨h1, h2⟩ := List.nodup_cons.mp hn
    have hx : x ∈ D := hs x (.head _)
    have ih := nodup_few l (D.erase x) h2 fun y hy => (List.mem_erase_of_ne (by intro e; subst e; exact h1 hy)).2 (hs y (.tail _ hy))
    have e := List.length_erase_of_mem hx
    have hp := List.length_pos_of_mem hx
    simp only [List.length_cons]
    omega
theorem got_len {ks L : List (Addr × List Int)} {i : Nat} (g : L2.Got ks i L) (hi : i ≤ ks.length) (nd : (ks.map (·.2)).Nodup) (nl : (L.map (·.2)).Nodup) : L.length = i := by
  refine Nat.le_antisymm g.len ?_
  have h1 : (ks.take i).map (·.2) ⊆ L.map (·.2) := fun x hx => by
    obtain ⟨p, hp, rfl⟩ := List.mem_map.mp hx
    exact g.all p hp
  have h2 : ((ks.take i).map (·.2)).Nodup := by
    rw [List.map_take]
    exact List.Sublist.nodup (List.take_sublist _ _) nd
  have h3 := nodup_few _ _ h2 h1
  rw [List.length_map, List.length_map, List.length_take] at h3
  omega
/-- len(set(t)), t a tuple of tuples of ints, all different -/
def tLenSetT (K : PySem.W.Frag) (ta : TE) : TE := fun σ H Q => ta σ H fun x H1 => ∃ (l : Addr) (ks : List (Addr × List Int)), x = V.ref l ∧ SqT K H1 l (ks.map fun p => V.ref p.1) ∧ (∀ p ∈ ks, SqT K H1 p.1 (p.2.map V.int)) ∧ ks.length < 64 ∧ (ks.map (·.2)).Nodup ∧ Q (.int ks.length) H1
theorem pe_lenSetT {a : Expr} {ta : TE} {p p2 q pos : Pos} (hc : X.calm = true) (hu : X.A.units + 64 < cLine) (hg : Gl X "len") (hm : X.mg "len" = none) (hg2 : Gl X "set") (hm2 : X.mg "set" = none) (ha : PE X a ta)
    (na : starEach [a] X.env = (false, eval a X.env) :: starEach [] X.env := by rfl) : PE X (.Call (.Name "len" p) [.Call (.Name "set" p2) [a] [] q] [] pos) (tLenSetT X.K ta) := by
  refine ⟨fun pins s σ H Q I h => ?_⟩
  refine Call_ (ld_blt I hg hm PySem.boot_len ?_)
  refine PyProof.Rows.callWith_builtin1 (PyProof.Rows.args_cons ?_ rfl) rfl rfl
  refine Call_ (ld_blt I hg2 hm2 PyProof.Rows.boot_set ?_)
  refine PyProof.Rows.callWith_type1 (PyProof.Rows.args_cons (thn (ha.run pins s σ H _ I h) fun v s1 ⟨x, H1, I1, r1, q1⟩ => PyProof.Rows.args_nil ?_) na) na rfl
  obtain ⟨l, ks, rfl, hq, hk, h1, hnd, q1⟩ := q1
  cases r1
  obtain ⟨its, rv, pl, hz⟩ := I1.tuple hq
  refine made (P := X.prog) (w := X.w) (ks := ks) (I1.ok.hd hc) pl (by simpa using refs_of_vals rv) (fun p hp => I1.isT (hk p hp)) h1 (by omega) fun h' tk L es ep t R g k => ?_
  refine PyProof.Rows.args_nil ?_
  have hL := got_len g (Nat.le_refl _) hnd R.nd
  have I2 : Inv X pins σ H1 { s1 with heap := h', toks := tk } := I1.kept fun b o e => k b o e
  obtain ⟨o, ho, hex, hd⟩ := R.ob
  refine call_len_set ho hex hd (SetTR.fits (s := { s1 with heap := h', toks := tk }) R) (by rw [SetTR.size (s := { s1 with heap := h', toks := tk }) R, hL]; omega) ⟨.int ks.length, H1, I2.tok _, ⟨_, by rw [SetTR.size (s := { s1 with heap := h', toks := tk }) R, hL]⟩, q1⟩
end
end SQ

/-! relations as numbers, and as lists of pairs -/
set_option linter.all false
namespace SQ
def orP : List Nat → Nat
  | [] => 0
  | b :: r => 2 ^ b ||| orP r
theorem orP_bit : ∀ (l : List Nat) (i : Nat), (orP l).testBit i = decide (i ∈ l)
  | [], i => by simp [orP]
  | b :: r, i => by
    show (2 ^ b ||| orP r).testBit i = _
    rw [Nat.testBit_or, Nat.testBit_two_pow, orP_bit r i]
    simp only [List.mem_cons, Bool.decide_or]
    congr 1
    exact decide_eq_decide.mpr eq_comm
theorem add_or {x b : Nat} (h : x.testBit b = false) : 2 ^ b + x = 2 ^ b ||| x := by
  have hr : x % 2 ^ (b + 1) < 2 ^ b := by
    refine Nat.lt_pow_two_of_testBit _ fun i hi => ?_
    rw [Nat.testBit_mod_two_pow]
    by_cases e : i = b
    · subst e
      rw [h, Bool.and_false]
    · rw [decide_eq_false (by omega), Bool.false_and]
  have hx : 2 ^ (b + 1) * (x / 2 ^ (b + 1)) + x % 2 ^ (b + 1) = x := Nat.div_add_mod _ _
  generalize x % 2 ^ (b + 1) = r at hr hx
  generalize x / 2 ^ (b + 1) = q at hx
  have e1 : 2 ^ b + r = 2 ^ b ||| r := by
    have := Nat.two_pow_add_eq_or_of_lt hr 1
    rwa [Nat.mul_one] at this
  have hp : 2 ^ (b + 1) = 2 ^ b * 2 := Nat.pow_succ ..
  have e2 : 2 ^ (b + 1) * q + (2 ^ b + r) = 2 ^ (b + 1) * q ||| (2 ^ b + r) := Nat.two_pow_add_eq_or_of_lt (by omega) q
  have e3 : 2 ^ (b + 1) * q + r = 2 ^ (b + 1) * q ||| r := Nat.two_pow_add_eq_or_of_lt (by omega) q
  have e4 : 2 ^ b + x = 2 ^ (b + 1) * q + (2 ^ b + r) := by omega
  rw [e4, e2, e1, ← hx, e3, ← Nat.or_assoc, ← Nat.or_assoc, Nat.or_comm (2 ^ (b + 1) * q)]
theorem sum_orP : ∀ {l : List Nat}, l.Nodup → (l.map (2 ^ ·)).sum = orP l
  | [], _ => rfl
  | b :: r, h => by
    have ⟨h1, h2⟩ := List.nodup_cons.mp h
    rw [List.map_cons, List.sum_cons, sum_orP h2, add_or (by rw [orP_bit]; exact decide_eq_false h1)]
    rfl
theorem orP_mem {l m : List Nat} (h : ∀ x, x ∈ l ↔ x ∈ m) : orP l = orP m := Nat.eq_of_testBit_eq fun i => by rw [orP_bit, orP_bit]; exact decide_eq_decide.mpr (h i)
theorem orP_app (l m : List Nat) : orP (l ++ m) = orP l ||| orP m := Nat.eq_of_testBit_eq fun i => by
  rw [Nat.testBit_or, orP_bit, orP_bit, orP_bit, ← Bool.decide_or]
  exact decide_eq_decide.mpr List.mem_append
abbrev Pr := Nat × Nat
def cd (e : Nat) (p : Pr) : Nat := p.1 * e + p.2
def bitsN (e : Nat) (ps : List Pr) : Nat := orP (ps.map (cd e))
def prs (e r : Nat) : List Pr := ((List.range 12).filter fun b => r.testBit b).map fun b => (b / e, b % e)
theorem cd_div {e : Nat} (b : Nat) : cd e (b / e, b % e) = b := by
  show b / e * e + b % e = b
  rw [Nat.mul_comm]
  exact Nat.div_add_mod b e
theorem cd_fst {e : Nat} {p : Pr} (h : p.2 < e) : cd e p / e = p.1 := by
  show (p.1 * e + p.2) / e = p.1
  rw [Nat.mul_comm, Nat.mul_add_div (by omega), Nat.div_eq_of_lt h, Nat.add_zero]
theorem cd_snd {e : Nat} {p : Pr} (h : p.2 < e) : cd e p % e = p.2 := by
  show (p.1 * e + p.2) % e = p.2
  rw [Nat.mul_comm, Nat.mul_add_mod, Nat.mod_eq_of_lt h]
theorem mem_prs {e r : Nat} (he : 0 < e) {p : Pr} : p ∈ prs e r ↔ p.2 < e ∧ cd e p < 12 ∧ r.testBit (cd e p) = true := by
  unfold prs
  rw [List.mem_map]
  constructor
  · rintro ⟨b, hb, rfl⟩
    rw [List.mem_filter, List.mem_range] at hb
    rw [cd_div]
    exact ⟨Nat.mod_lt _ he, hb⟩
  · rintro ⟨h1, h2, h3⟩
    refine ⟨cd e p, List.mem_filter.mpr ⟨List.mem_range.mpr h2, h3⟩, ?_⟩
    rw [cd_fst h1, cd_snd h1]
theorem cd_prs (e r : Nat) : (prs e r).map (cd e) = (List.range 12).filter fun b => r.testBit b := by
  unfold prs
  rw [List.map_map]
  conv => rhs; rw [← List.map_id ((List.range 12).filter fun b => r.testBit b)]
  exact List.map_congr_left fun b _ => cd_div b
theorem bit_lt {r i : Nat} (hr : r < 4096) (h : r.testBit i = true) : i < 12 := by
  refine Nat.lt_of_not_le fun hi => ?_
  rw [Nat.testBit_lt_two_pow (Nat.lt_of_lt_of_le hr (Nat.pow_le_pow_right (n := 2) (by decide) hi))] at h
  cases h
theorem bits_prs {e r : Nat} (hr : r < 4096) : bitsN e (prs e r) = r := Nat.eq_of_testBit_eq fun i => by
  unfold bitsN
  rw [orP_bit, cd_prs]
  cases h : r.testBit i with
  | true => exact decide_eq_true (List.mem_filter.mpr ⟨List.mem_range.mpr (bit_lt hr h), h⟩)
  | false => exact decide_eq_false fun z => by rw [(List.mem_filter.mp z).2] at h; cases h
theorem bits_mem {e : Nat} {ps qs : List Pr} (h : ∀ x, x ∈ ps ↔ x ∈ qs) : bitsN e ps = bitsN e qs := orP_mem fun x => by
  simp only [List.mem_map, h]
theorem bits_app (e : Nat) (ps qs : List Pr) : bitsN e (ps ++ qs) = bitsN e ps ||| bitsN e qs := by
  unfold bitsN
  rw [List.map_append, orP_app]
theorem prs_nodup (e r : Nat) : (prs e r).Nodup := by
  have h : ((prs e r).map (cd e)).Nodup := by
    rw [cd_prs]
    exact List.Pairwise.filter _ List.nodup_range
  exact List.Pairwise.of_map (cd e) (fun a b hne e => hne (congrArg _ e)) h
theorem prs_len (e r : Nat) : (prs e r).length ≤ 12 := by
  unfold prs
  rw [List.length_map]
  exact Nat.le_trans (List.length_filter_le _ _) (by rw [List.length_range]; exact Nat.le_refl _)
theorem prs_small {m e r : Nat} (he : 0 < e) (hr : r < 2 ^ (m * e)) {p : Pr} (h : p ∈ prs e r) : p.1 < m ∧ p.2 < e := by
  obtain ⟨h1, _, h3⟩ := (mem_prs he).mp h
  refine ⟨?_, h1⟩
  have hb : cd e p < m * e := by
    refine Nat.lt_of_not_le fun hi => ?_
    rw [Nat.testBit_lt_two_pow (Nat.lt_of_lt_of_le hr (Nat.pow_le_pow_right (n := 2) (by decide) hi))] at h3
    cases h3
  refine Nat.lt_of_not_le fun hm => ?_
  have := Nat.mul_le_mul_right e hm
  have e1 : cd e p = p.1 * e + p.2 := rfl
  omega
/-- the program looks at fewer bits -/
theorem few_bits {r k : Nat} (hk : k ≤ 12) (hr : r < 2 ^ k) : (List.range k).filter (fun b => r.testBit b) = (List.range 12).filter fun b => r.testBit b := by
  have e : List.range 12 = List.range k ++ (List.range (12 - k)).map (k + ·) := by
    rw [show 12 = k + (12 - k) by omega, List.range_add, show k + (12 - k) - k = 12 - k by omega]
  rw [e, List.filter_append]
  have z : ((List.range (12 - k)).map (k + ·)).filter (fun b => r.testBit b) = [] := by
    refine List.filter_eq_nil_iff.mpr fun b hb => ?_
    obtain ⟨c, _, rfl⟩ := List.mem_map.mp hb
    rw [Nat.testBit_lt_two_pow (Nat.lt_of_lt_of_le hr (Nat.pow_le_pow_right (by decide) (Nat.le_add_right k c)))]
    decide
  rw [z, List.append_nil]
theorem within_iff {e r s : Nat} (he : 0 < e) (hr : r < 4096) : ((prs e r).filter fun p => decide (p ∉ prs e s)) = [] ↔ r ||| s = s := by
  constructor
  · intro h
    refine Nat.eq_of_testBit_eq fun i => ?_
    rw [Nat.testBit_or]
    cases hi : r.testBit i with
    | false => rfl
    | true =>
      have hl := bit_lt hr hi
      have m : (i / e, i % e) ∈ prs e r := (mem_prs he).mpr ⟨Nat.mod_lt _ he, by rw [cd_div]; exact ⟨hl, hi⟩⟩
      have := List.filter_eq_nil_iff.mp h _ m
      have q : (i / e, i % e) ∈ prs e s := Classical.byContradiction fun z => this (decide_eq_true z)
      have := ((mem_prs he).mp q).2.2
      rw [cd_div] at this
      rw [this]
      rfl
  · intro h
    refine List.filter_eq_nil_iff.mpr fun p hp => ?_
    rw [decide_eq_true_eq]
    intro z
    obtain ⟨h1, h2, h3⟩ := (mem_prs he).mp hp
    refine z ((mem_prs he).mpr ⟨h1, h2, ?_⟩)
    rw [← h, Nat.testBit_or, h3, Bool.true_or]
theorem or_lt {a b k : Nat} (ha : a < 2 ^ k) (hb : b < 2 ^ k) : a ||| b < 2 ^ k := Nat.or_lt_two_pow ha hb
/-- the relation of all pairs (m, m) -/
def sameN (m e : Nat) : Nat := orP ((List.range m).map fun i => i * e + i)
end SQ
namespace SQ
theorem cast_sum (l : List Nat) : (l.map fun n : Nat => (n : Int)).sum = ((l.sum : Nat) : Int) := by
  induction l with
  | nil => rfl
  | cons x r ih => rw [List.map_cons, List.sum_cons, List.sum_cons, ih, Int.natCast_add]
theorem diag_nodup (m e : Nat) : ((List.range m).map fun i => i * e + i).Nodup := by
  rw [List.nodup_iff_pairwise_ne, List.pairwise_map]
  refine List.Pairwise.imp (fun {a b} h z => ?_) List.pairwise_lt_range
  have := Nat.mul_le_mul_right e (Nat.le_of_lt h)
  omega
theorem same_sum (m e : Nat) : ((List.range m).map fun i => ((2 ^ (i * e + i) : Nat) : Int)).sum = ((sameN m e : Nat) : Int) := by
  have h := sum_orP (diag_nodup m e)
  rw [List.map_map] at h
  rw [show sameN m e = orP ((List.range m).map fun i => i * e + i) from rfl, ← h, ← cast_sum, List.map_map]
  rfl
end SQ
namespace SQ
theorem and_bit (r i : Nat) : (r / 2 ^ i &&& 1) = (r.testBit i).toNat := by
  rw [Nat.testBit_eq_decide_div_mod_eq, Nat.and_one_is_mod]
  rcases Nat.mod_two_eq_zero_or_one (r / 2 ^ i) with h | h <;> rw [h] <;> rfl
theorem bit_ne (b : Bool) : (((b.toNat : Nat) : Int) != 0) = b := by cases b <;> rfl
end SQ
namespace SQ
theorem nodup_map {α β : Type} {f : α → β} {l : List α} (inj : ∀ a b, f a = f b → a = b) (h : l.Nodup) : (l.map f).Nodup := by
  rw [List.nodup_iff_pairwise_ne, List.pairwise_map]
  exact List.Pairwise.imp (fun n e => n (inj _ _ e)) h
theorem nodup_on {α β : Type} {f : α → β} : ∀ {l : List α}, (∀ a ∈ l, ∀ b ∈ l, f a = f b → a = b) → l.Nodup → (l.map f).Nodup
  | [], _, _ => List.nodup_nil
  | x :: r, inj, h => by
    have ⟨h1, h2⟩ := List.nodup_cons.mp h
    refine List.nodup_cons.mpr ⟨fun m => ?_, nodup_on (fun a ha b hb => inj a (.tail _ ha) b (.tail _ hb)) h2⟩
    obtain ⟨y, hy, e⟩ := List.mem_map.mp m
    exact h1 (inj y (.tail _ hy) x (.head _) e ▸ hy)
theorem nodup_codes {e m : Nat} {ps : List Pr} (h : ∀ x ∈ ps, x.1 < m ∧ x.2 < e) (nd : ps.Nodup) : (ps.map (cd e)).Nodup := nodup_on (fun a ha b hb z => by
  have ea := (h a ha).2
  have eb := (h b hb).2
  have h1 := cd_fst ea
  have h2 := cd_snd ea
  rw [z] at h1 h2
  exact Prod.ext (h1.symm.trans (cd_fst eb)) (h2.symm.trans (cd_snd eb))) nd
theorem bits_sum {α : Type} {e : Nat} (ks : List (α × Pr)) (nd : ((ks.map (·.2)).map (cd e)).Nodup) : (ks.map fun q => ((2 ^ cd e q.2 : Nat) : Int)).sum = ((bitsN e (ks.map (·.2)) : Nat) : Int) := by
  have h := sum_orP nd
  rw [List.map_map, List.map_map] at h
  rw [show bitsN e (ks.map (·.2)) = orP ((ks.map (·.2)).map (cd e)) from rfl, ← h, ← cast_sum, List.map_map]
  rfl
end SQ
namespace SQ
theorem perm_back {α β : Type} {f : α → β} {xs ys : List β} (h : xs.Perm ys) : ∀ {l : List α}, ys = l.map f → ∃ l' : List α, xs = l'.map f ∧ l'.Perm l := by
  induction h with
  | nil =>
    intro l e
    cases l with
    | nil => exact ⟨[], rfl, .refl _⟩
    | cons x r => cases e
  | cons x _ ih =>
    intro l e
    cases l with
    | nil => cases e
    | cons y r =>
      rw [List.map_cons] at e
      injection e with e1 e2
      obtain ⟨l', h1, h2⟩ := ih e2
      exact ⟨y :: l', by rw [List.map_cons, h1, e1], h2.cons y⟩
  | swap x y l0 =>
    intro l e
    match l, e with
    | u :: v :: r, e =>
      simp only [List.map_cons] at e
      injection e with e1 e2
      injection e2 with e2 e3
      exact ⟨v :: u :: r, by simp only [List.map_cons]; rw [e1, e2, e3], .swap _ _ _⟩
  | trans _ _ ih1 ih2 =>
    intro l e
    obtain ⟨l2, h1, h2⟩ := ih2 e
    obtain ⟨l3, h3, h4⟩ := ih1 h1
    exact ⟨l3, h3, h4.trans h2⟩
end SQ

set_option Elab.async false
set_option linter.all false
set_option maxRecDepth 100000
set_option maxHeartbeats 4000000
/-! own classes: ==, !=, str by their own defs; ranges as values; whole numbers from 0 on -/
namespace SQ
open PySem PySem.Spec PyProof.Rows L2
section
variable {X : Cx} {pins : List (Addr × Obj)} {σ : L2.St} {H : Hp} {s : Shared} {n : Nat} {A : Around} {CX : CXT} {C f : Addr} {fd : FuncData} {ps : List Str} {sp : Sp} {E : XK}
theorem looks_ty {x : V} {u t : Value} (I : Inv X pins σ H s) (rx : RelV x u) (ty : TyX X.K H x t) : PySem.W.Looks (model X.prog X.w) s.heap (typeOf u) t := by
  obtain ⟨P, k, p, _⟩ := kit_of I rx ty
  exact k.ty _ _ I.kIn p
theorem run_at {vs : List V} {us : List Value} {Q : VK} (sb : Sub X n A) (I : Inv X pins σ H s) (F : FnOk X.prog X.w X.K X.mg X.base CX n f fd ps sp) (hb : Binds X.K fd ps []) (hx : Passes CX X E) (r : Vals vs us) (h : sp vs H Q E) :
    wpAny (model X.prog X.w) A (call (.ref f) us) (fun u s' => ∃ v H', Inv X pins σ H' s' ∧ RelV v u ∧ Q v H') X.xe s := by
  have e0 : Env0 X.prog X.w X.K X.mg X.base A X.stack s H := by
    have e := I.env0
    exact ⟨by rw [sb.fr]; exact e.frames, e.mod, e.bs, e.bsz, e.funs, e.frf, e.hok, e.bare⟩
  have hl := F.len _ _ _ _ h
  refine wpAny_call (codeAny_mono (F.run A X.stack s H ⟨us, []⟩ us vs Q E sb.room e0 (by
    have := hb s us I.kIn (by rw [List.append_nil, ← r.length]; exact hl)
    simpa using this) r h) fun r s' hq => ?_)
  cases r with
  | error e => exact hx pins σ H s e s' I hq
  | ok fl =>
    cases fl with
    | ret w =>
      obtain ⟨z, H', I', rz, q⟩ := I.after hq
      exact ⟨z, H', I', rz, q⟩
    | next => exact False.elim hq
    | brk => exact False.elim hq
    | cont => exact False.elim hq
/-- x == y by the text's own == -/
def rEqO (K : PySem.W.Frag) (C : Addr) (sp : Sp) (E : XK) (neg : Bool) : R2 := fun x y H Q => ∃ a dx fs tb, x = .ref a ∧ H a = some (.ins C dx fs) ∧ TyX K H y tb ∧ PySem.W.notFirst K C tb = true ∧ sp [.ref a, y] H (fun v H' => ∃ b, v = .bl b ∧ Q (.bl (if neg then !b else b)) H') E
theorem op_eqOwn (hr : Room n X.A) (F : FnOk X.prog X.w X.K X.mg X.base CX n f fd ps sp) (hs : PySem.W.findIn X.K (.ref C) "__eq__" = some (some (.ref f))) (hf : PySem.W.isFn X.K (.ref f) = true) (hb : Binds X.K fd ps []) (hx : Passes CX X E) :
    OpR X (compareOp .Eq) (rEqO X.K C sp E false) := by
  intro pins s σ H x y v u Q I rx ry hq
  obtain ⟨a, dx, fs, tb, rfl, ha, ty, nf, q⟩ := hq
  cases rx
  obtain ⟨mA, J, _⟩ := ins_get I.hok ha
  obtain ⟨od, J, _⟩ := J.look
  obtain ⟨m, hF⟩ := I.fr
  show wpAny (model X.prog X.w) X.A (richCompare .Eq (.ref a) u) (EP X pins σ Q) X.xe s
  refine PySem.W.cmp_K (op := .Eq) (tb := tb) hr.units0 hF I.ok.mod.kin J (looks_ty I ry ty) nf hs hf ?_
  refine wpAny_mono (run_at ⟨hr, rfl⟩ I F hb hx (.cons (show RelV (V.ref a) (Value.ref a) from rfl) (.cons ry .nil)) q) (fun w s' h => ?_) fun _ _ z => z
  obtain ⟨z, H', I', rz, b, rfl, q2⟩ := h
  cases rz
  exact ⟨.bl b, H', I', rfl, q2⟩
theorem obj_ne {x : Addr} {b : Value} {ox : Obj} {od : Option Obj} {Q : Fin → Shared → Prop} (hu : A.units < cLine) (I : PySem.W.InstAt s.heap x ox C od) (K : PySem.W.Frag) (X0 : K.In s.heap)
    (hs : PySem.W.findIn K (.ref C) "__eq__" = some (some (.ref f))) (hf : PySem.W.isFn K (.ref f) = true) {E : Value → Shared → Prop} {prog : Program} {w : World}
    (h : wpAny (model prog w) A (call (.ref f) [.ref x, b]) (fun v s' => ∃ r, v = .bool r ∧ Q (.done (.ret (.bool (!r)))) s') E s) : wpAny (model prog w) A (Builtin.«object.__ne__» ⟨[.ref x, b], []⟩) Q E s := by
  unfold Builtin.«object.__ne__»
  refine wpAny_bind (m := slotArgs "__ne__" 1 _) (wpAny_pure ?_)
  refine wpAny_bind (m := cRoomFor _ _) (wpAny_cRoomFor hu ?_)
  refine wpAny_bind (m := callSpecialIfBound? (.ref x) (Str.ofString "__eq__") [b]) (PySem.W.ifBound_K X0 I hs hf (wpAny_mono h (fun v s' hv => ?_) fun _ _ y => y))
  obtain ⟨r, rfl, q⟩ := hv
  exact wpAny_bind (wpAny_truthy_bool (wpAny_pure q))
theorem ifBound_B {M : Model} {x : Addr} {ox : Obj} {od : Option Obj} {K : PySem.W.Frag} {name : Str} {id : String} {args : List Value} {Q : Option Value → Shared → Prop} {E : Value → Shared → Prop} (X0 : K.In s.heap) (I : PySem.W.InstAt s.heap x ox C od) (hs : PySem.W.findIn K (.ref C) name = some (some (.builtin id)))
    (hb : ∀ self, bindSpecial (.builtin id) self = pure (.builtin id, [self])) (h : wpAny M A (call (.builtin id) (.ref x :: args)) (fun v => Q (some v)) E s) : wpAny M A (callSpecialIfBound? (.ref x) name args) Q E s := by
  simp only [callSpecialIfBound?, bindSpecialIfBound?]
  refine wpAny_holding (wpAny_bind (wpAny_bind (wpAny_bind (I.type.here ((PySem.W.looks_findIn X0 hs).here ?_)))))
  refine wpAny_bind (wpAny_askSetting (wpAny_ite ?_))
  have fin : wpAny M A (call (.builtin id) ([.ref x] ++ args) >>= fun v => pure (some v)) Q E s := wpAny_bind (wpAny_mono h (fun v s' h' => wpAny_pure h') fun _ _ h' => h')
  split
  · exact wpAny_bind ((PySem.W.Looks.of_pure (hb _)).here (wpAny_pure (by exact fin)))
  · exact wpAny_tryCatch (wpAny_bind ((PySem.W.Looks.of_pure (hb _)).here (wpAny_pure (by exact fin))))
theorem op_neOwn (hr : Room (n + 1) X.A) (F : FnOk X.prog X.w X.K X.mg X.base CX n f fd ps sp) (hs : PySem.W.findIn X.K (.ref C) "__eq__" = some (some (.ref f))) (hf : PySem.W.isFn X.K (.ref f) = true) (hb : Binds X.K fd ps []) (hx : Passes CX X E)
    (hn : PySem.W.findIn X.K (.ref C) "__ne__" = some (some (.builtin "object.__ne__"))) (hm : PySem.W.mroIn X.K C (.type "object") = some true) : OpR X (compareOp .NotEq) (rEqO X.K C sp E true) := by
  intro pins s σ H x y v u Q I rx ry hq
  obtain ⟨a, dx, fs, tb, rfl, ha, ty, nf, q⟩ := hq
  cases rx
  obtain ⟨mA, J, _⟩ := ins_get I.hok ha
  obtain ⟨od, J, _⟩ := J.look
  have X0 := I.kIn
  have lt := looks_ty I ry ty
  have one : wpAny (model X.prog X.w) X.A (tryCompare (.ref a) (cmpInfo .NotEq).2.1 u) (fun r s' => ∃ v, r = some v ∧ EP X pins σ Q v s') X.xe s := by
    unfold tryCompare
    refine wpAny_bind (ifBound_B X0 J hn PySem.F.slot_object_ne.bind ?_)
    refine wpAny_call (codeAny_call_builtin PySem.F.slot_object_ne.plain PySem.F.cmpEntry_ne (PySem.W.check_slot (i := "object.__ne__") (owner := "object") (n := "__ne__") PySem.F.cmpKind_ne PySem.F.cmpSplit_ne (J.type.andThen (PySem.W.looks_mroIn X0 hm)) (PySem.F.cmpArgs_ne _ _) ?_))
    refine obj_ne hr.in1.units0 J X.K X0 hs hf ?_
    refine wpAny_mono (run_at ⟨hr.in1, rfl⟩ I F hb hx (.cons (show RelV (V.ref a) (Value.ref a) from rfl) (.cons ry .nil)) q) (fun w s' h => ?_) fun _ _ z => z
    obtain ⟨z, H', I', rz, b, rfl, q2⟩ := h
    cases rz
    exact ⟨b, rfl, wpAny_pure ⟨_, rfl, .bl (!b), H', I', rfl, q2⟩⟩
  show wpAny (model X.prog X.w) X.A (richCompare .NotEq (.ref a) u) (EP X pins σ Q) X.xe s
  unfold richCompare
  simp only [oneThing_ref]
  refine wpAny_holding (wpAny_bind (wpAny_cRoomFor hr.units0 ?_))
  refine wpAny_bind (J.type.here (wpAny_bind (lt.here ?_)))
  split
  · rename_i q
    have e : PySem.W.subIn X.K tb (.ref C) = some false := by
      rcases Bool.or_eq_true_iff.mp nf with e | e
      · rw [beq_iff_eq.mp e] at q; simp at q
      · exact beq_iff_eq.mp e
    refine wpAny_bind ((PySem.W.looks_subIn X0 e).here ?_)
    simp only [Bool.false_eq_true, if_false]
    refine wpAny_bind (wpAny_mono one (fun r s' z => ?_) fun _ _ e => e)
    obtain ⟨v, rfl, hq⟩ := z
    exact wpAny_pure hq
  · refine wpAny_bind (wpAny_pure ?_)
    simp only [Bool.false_eq_true, if_false]
    refine wpAny_bind (wpAny_mono one (fun r s' z => ?_) fun _ _ e => e)
    obtain ⟨v, rfl, hq⟩ := z
    exact wpAny_pure hq
/-- str(x) by the text's own __str__ -/
theorem cr_strOwn (hr : Room (n + 2) X.A) (F : FnOk X.prog X.w X.K X.mg X.base CX n f fd ps sp) (hs : PySem.W.findIn X.K (.ref C) "__str__" = some (some (.ref f))) (hf : PySem.W.isFn X.K (.ref f) = true) (hb : Binds X.K fd ps []) (hx : Passes CX X E) :
    CallR X (.type "str") (fun xs H Q => ∃ a dx fs, xs = [.ref a] ∧ H a = some (.ins C dx fs) ∧ sp [.ref a] H (fun v H' => ∃ z, v = .str z ∧ Q (.str z) H') E) := by
  intro pins s σ H vs us Q I r h
  obtain ⟨a, dx, fs, rfl, ha, q⟩ := h
  rw [Vals.ref1 r]
  obtain ⟨mA, J, _⟩ := ins_get I.hok ha
  obtain ⟨od, J, _⟩ := J.look
  refine PySem.W.kso_call hr.in1.in1.units0 I.kIn J hs hf ?_
  refine wpAny_mono (run_at ⟨hr.in1.in1, rfl⟩ I F hb hx (.cons (show RelV (V.ref a) (Value.ref a) from rfl) .nil) q) (fun w s' h => ?_) fun _ _ z => z
  obtain ⟨z, H', I', rz, z, rfl, q2⟩ := h
  obtain ⟨t, rfl⟩ := rz
  exact ⟨.str z, H', I', ⟨_, rfl⟩, q2⟩
end
section
variable {X : Cx}
/-! ### ranges kept -/
theorem cr_range1 : CallR X (.type "range") (fun vs H Q => ∃ j, vs = [V.int j] ∧ ∀ p, H p = none → Q (.ref p) (upd H p (.rng 0 j))) := by
  intro pins s σ H vs us Q I r h
  obtain ⟨j, rfl, q⟩ := h
  obtain ⟨u, rfl, t, rfl⟩ := vals1 r
  refine call_range_1 ⟨.ref s.heap.objs.size, upd H s.heap.objs.size (.rng 0 j), I.laid (t' := s.toks + 2) (fun b o e => Heap.get?_push_of_some _ e) (Nat.le_refl _) ?_, rfl, q _ (I.hok.fresh (Nat.le_refl _))⟩
  exact ⟨_, _, _, Heap.get?_push_size _ rfl⟩
def iRngV (tl : TE) : TI := fun σ H R => tl σ H fun x H1 => ∃ a lo hi, x = .ref a ∧ H1 a = some (.rng lo hi) ∧ (-(2 ^ 62) ≤ lo ∧ lo < 2 ^ 62 ∧ -(2 ^ 62) ≤ hi ∧ hi < 2 ^ 62) ∧ R (Itr lo (hi - lo).toNat) H1
theorem pi_rngV {tg l : Expr} {tl : TE} (hl : PE X l tl) : PI X tg l (iRngV tl) := by
  refine ⟨fun pins s σ H R I h => ?_⟩
  refine thn (hl.run pins s σ H _ I h) fun v s1 ⟨x, H1, I1, r1, q1⟩ => ?_
  obtain ⟨a, lo, hi, rfl, ha, ⟨h1, h2, h3, h4⟩, q⟩ := q1
  cases r1
  obtain ⟨t, u, v, ho⟩ := I1.hok a _ ha
  refine wpAny_pyIter_range (r := a) (a := lo) (b := hi) (c := 1) ho (small_one h1 h2 h3 h4) ?_
  refine ⟨s1.heap.objs.size, [s1.heap.objs.size], _, _, H1, rfl, I1.kept fun b o e => Heap.get?_push_of_some _ e, turn_range _ lo (hi - lo).toNat, ?_, fun b hb => ?_, q⟩
  · have e1 : lo + ((0 : Nat) : Int) * 1 = lo := by simp
    have e2 : (((hi - lo).toNat : Nat) : Int) - ((0 : Nat) : Int) = Builtin.Range.rangeSize lo hi 1 := by rw [rangeSize_one]; split <;> omega
    show IsRangeIter _ _ (lo + ((0 : Nat) : Int) * 1) ((((hi - lo).toNat : Nat) : Int) - ((0 : Nat) : Int)) 1
    rw [e1, e2]
    exact Heap.get?_push_size _ rfl
  · have e : b = s1.heap.objs.size := by simpa using hb
    subst e
    exact I1.fpOk (Nat.le_refl _) (I1.hok.fresh (Nat.le_refl _))
/-! ### whole numbers from 0 on -/
theorem op_shlNN : OpR X (binaryOp .LShift) (fun x y H Q => ∃ n k : Nat, x = .int (n : Int) ∧ y = .int (k : Int) ∧ n < 2 ^ 64 ∧ k ≤ 1000000 ∧ Q (.int ((n * 2 ^ k : Nat) : Int)) H) := by
  intro pins s σ H x y v u Q I rx ry h
  obtain ⟨n, k, rfl, rfl, c1, c2, q⟩ := h
  have e : ((n * 2 ^ k : Nat) : Int) = (n : Int) * 2 ^ ((k : Int)).toNat := by rw [Int.toNat_natCast, Int.natCast_mul, PySem.W.kbt_cast]
  rw [e] at q
  exact op_shl pins s σ H _ _ v u Q I rx ry ⟨_, _, rfl, rfl, ⟨Int.natCast_nonneg _, by omega, by omega⟩, q⟩
theorem op_shrNN : OpR X (binaryOp .RShift) (fun x y H Q => ∃ n k : Nat, x = .int (n : Int) ∧ y = .int (k : Int) ∧ Q (.int ((n / 2 ^ k : Nat) : Int)) H) := by
  intro pins s σ H x y v u Q I rx ry h
  obtain ⟨n, k, rfl, rfl, q⟩ := h
  have e : ((n / 2 ^ k : Nat) : Int) = (n : Int) / 2 ^ k := by rw [Int.natCast_ediv, PySem.W.kbt_cast]
  rw [e] at q
  exact op_shrN pins s σ H _ _ v u Q I rx ry ⟨_, _, rfl, rfl, q⟩
theorem op_orNN : OpR X (binaryOp .BitOr) (fun x y H Q => ∃ n m : Nat, x = .int (n : Int) ∧ y = .int (m : Int) ∧ Q (.int ((n ||| m : Nat) : Int)) H) := by
  intro pins s σ H x y v u Q I rx ry h
  obtain ⟨n, m, rfl, rfl, q⟩ := h
  have e := bitOr_nn (Int.natCast_nonneg n) (Int.natCast_nonneg m)
  rw [Int.toNat_natCast, Int.toNat_natCast] at e
  rw [← e] at q
  exact op_or pins s σ H _ _ v u Q I rx ry ⟨_, _, rfl, rfl, q⟩
theorem iop_orNN : OpR X (inplaceOp .BitOr) (fun x y H Q => ∃ n m : Nat, x = .int (n : Int) ∧ y = .int (m : Int) ∧ Q (.int ((n ||| m : Nat) : Int)) H) := by
  intro pins s σ H x y v u Q I rx ry h
  obtain ⟨n, m, rfl, rfl, q⟩ := h
  have e := bitOr_nn (Int.natCast_nonneg n) (Int.natCast_nonneg m)
  rw [Int.toNat_natCast, Int.toNat_natCast] at e
  rw [← e] at q
  exact iop_or pins s σ H _ _ v u Q I rx ry ⟨_, _, rfl, rfl, q⟩
theorem op_andNN : OpR X (binaryOp .BitAnd) (fun x y H Q => ∃ n m : Nat, x = .int (n : Int) ∧ y = .int (m : Int) ∧ Q (.int ((n &&& m : Nat) : Int)) H) := by
  intro pins s σ H x y v u Q I rx ry h
  obtain ⟨n, m, rfl, rfl, q⟩ := h
  have e : Builtin.bitAnd (n : Int) (m : Int) = ((n &&& m : Nat) : Int) := by
    have := bitAnd_pp (Int.natCast_nonneg n) (Int.natCast_nonneg m)
    rw [Int.toNat_natCast, Int.toNat_natCast] at this
    exact this
  rw [← e] at q
  exact op_and pins s σ H _ _ v u Q I rx ry ⟨_, _, rfl, rfl, q⟩
theorem op_modNN : OpR X (binaryOp .Mod) (fun x y H Q => ∃ n m : Nat, x = .int (n : Int) ∧ y = .int (m : Int) ∧ 1 ≤ m ∧ Q (.int ((n % m : Nat) : Int)) H) := by
  intro pins s σ H x y v u Q I rx ry h
  obtain ⟨n, m, rfl, rfl, c, q⟩ := h
  rw [Int.natCast_emod] at q
  exact op_mod pins s σ H _ _ v u Q I rx ry ⟨_, _, rfl, rfl, show (0 : Int) < (m : Int) by omega, q⟩
/-- divmod of whole numbers -/
theorem call_divmodN : CallR X (.builtin "divmod") (fun xs H Q => ∃ n m : Nat, xs = [.int (n : Int), .int (m : Int)] ∧ (1 ≤ m ∧ m < 1073741824) ∧ ∀ p, H p = none → Q (.ref p) (upd H p (.tup [.int ((n / m : Nat) : Int), .int ((n % m : Nat) : Int)]))) := by
  intro pins s σ H xs us Q I r h
  obtain ⟨n, m, rfl, ⟨c1, c2⟩, q⟩ := h
  refine call_divmod pins s σ H _ us Q I r ⟨_, _, rfl, ⟨by omega, by omega⟩, fun p hp => ?_⟩
  rw [← Int.natCast_ediv, ← Int.natCast_emod]
  exact q p hp
end
end SQ

set_option Elab.async false
set_option linter.all false
set_option maxRecDepth 100000
set_option maxHeartbeats 4000000
namespace SQ
open PySem PySem.Spec PyProof.Rows L2
structure Cal (P : Program) (w : World) (K : PySem.W.Frag) (mg : Str → Option Value) (base : Heap) (k : Nat) (x : Str) (ps : List Str) (sp : Sp) : Prop where
  ex : ∃ (f : Addr) (fd : FuncData), FnOk P w K mg base CX0 k f fd ps sp ∧ mg x = some (.ref f) ∧ PySem.W.keepIn K (.ref f) = true ∧ Binds K fd ps []
theorem pe_own {X : Cx} {x : Str} {k : Nat} {ps : List Str} {sp : Sp} {e : Expr} {es : List Expr} {t : TA} {p pos : Pos} (C : Cal X.prog X.w X.K X.mg X.base k x ps sp) (hr : Room k X.A) (hg : Gl X x) (ha : PA X (e :: es) t) (hdb : (x == ("__debug__" : Str)) = false := by decide) (he : starEach (e :: es) X.env = (false, eval e X.env) :: starEach es X.env := by rfl) (hpl : (backTo pos (starEach es X.env)).any (·.1) = false := by rfl) :
    PE X (.Call (.Name x p) (e :: es) [] pos) (tCall sp [] E0 t) := by
  obtain ⟨f, fd, F, m, kp, b⟩ := C.ex
  exact pe_call F hr hg m kp b .nil pass0 ha hdb he hpl
def CPowW (i j : Int) : Prop := 0 ≤ j ∧ (Builtin.Int.intBits i : Int) * j ≤ 2 ^ 27
theorem op_powW {X : Cx} : OpR X (binaryOp .Pow) (rI CPowW fun i j => .int (i ^ j.toNat)) := opI fun _ _ _ _ _ _ _ hc q => pow_int hc.1 hc.2 q
/-! ### heaps -/
theorem same_upd {H : Hp} {p : Addr} {o : HO} (h : H p = none) : Same H (upd H p o) := fun b x e => by
  rw [upd_ne (ne_of_none e h)]
  exact e
theorem Same.trans {H H1 H2 : Hp} (a : Same H H1) (b : Same H1 H2) : Same H H2 := fun p o e => b p o (a p o e)
theorem Same.rfl {H : Hp} : Same H H := fun _ _ e => e
theorem Same.seq {K : PySem.W.Frag} {H H' : Hp} {b : Addr} {xs : List V} (g : Same H H') (h : SqL K H b xs) : SqL K H' b xs := by
  rcases h with (h | ⟨o, h⟩) | h
  · exact .inl (.inl (g _ _ h))
  · exact .inl (.inr ⟨o, g _ _ h⟩)
  · exact .inr h
theorem Same.sqT {K : PySem.W.Frag} {H H' : Hp} {b : Addr} {xs : List V} (g : Same H H') (h : SqT K H b xs) : SqT K H' b xs := by
  rcases h with (h | ⟨o, h⟩) | h
  · exact .inl (.inl (g _ _ h))
  · exact .inl (.inr ⟨o, g _ _ h⟩)
  · exact .inr h
/-- a new object is changed again -/
theorem Same.set {H H' : Hp} {D : Addr} {o : HO} (s : Same H H') (h : H D = none) : Same H (upd H' D o) := fun b x e => by
  rw [upd_ne (ne_of_none e h)]
  exact s b x e
theorem tupT {K : PySem.W.Frag} {H : Hp} {p : Addr} {xs : List V} (h : H p = some (.tup xs)) : SqT K H p xs := .inl (.inl h)
theorem lstL {K : PySem.W.Frag} {H : Hp} {p : Addr} {xs : List V} (h : H p = some (.lst xs)) : SqL K H p xs := .inl (.inl h)
def Die (H : Hp) (a : Addr) : Prop := ∃ x y z : Int, H a = some (.lst [.int x, .int y, .int z])
/-- all but a is as it was, and a is an urn -/
def Go (a : Addr) (H H' : Hp) : Prop := (∀ b o, b ≠ a → H b = some o → H' b = some o) ∧ Die H' a
theorem Die.same {H H' : Hp} {a : Addr} (d : Die H a) (s : Same H H') : Die H' a := by
  obtain ⟨x, y, z, e⟩ := d
  exact ⟨x, y, z, s _ _ e⟩
theorem Go.of {H H' : Hp} {a : Addr} (d : Die H a) (s : Same H H') : Go a H H' := ⟨fun b o _ e => s b o e, d.same s⟩
theorem Go.trans {H H1 H2 : Hp} {a : Addr} (x : Go a H H1) (y : Go a H1 H2) : Go a H H2 := ⟨fun b o n e => y.1 b o n (x.1 b o n e), y.2⟩
theorem Go.then {H H1 H2 : Hp} {a : Addr} (x : Go a H H1) (y : Same H1 H2) : Go a H H2 := x.trans (.of x.2 y)
theorem Go.put {H : Hp} {a : Addr} {x y z : Int} : Go a H (upd H a (.lst [.int x, .int y, .int z])) := ⟨fun b o n e => by rw [upd_ne n]; exact e, x, y, z, upd_same⟩
theorem Go.new {H : Hp} {a p : Addr} {o : HO} (d : Die H a) (h : H p = none) : Go a H (upd H p o) := .of d (same_upd h)
theorem Die.ne {H : Hp} {a p : Addr} (d : Die H a) (h : H p = none) : p ≠ a := fun e => by
  obtain ⟨x, y, z, q⟩ := d
  rw [← e, h] at q
  cases q
theorem Die.neT {H : Hp} {a p : Addr} {o : HO} (d : Die H a) (h : H p = some o) (n : ∀ xs, o ≠ .lst xs) : p ≠ a := fun e => by
  obtain ⟨x, y, z, q⟩ := d
  rw [← e, h] at q
  exact n _ (Option.some.inj q)
theorem Go.seq {K : PySem.W.Frag} {H H' : Hp} {a b : Addr} {xs : List V} (g : Go a H H') (n : b ≠ a) (h : SqL K H b xs) : SqL K H' b xs := by
  rcases h with (h | ⟨o, h⟩) | h
  · exact .inl (.inl (g.1 _ _ n h))
  · exact .inl (.inr ⟨o, g.1 _ _ n h⟩)
  · exact .inr h
theorem Go.sqT {K : PySem.W.Frag} {H H' : Hp} {a b : Addr} {xs : List V} (d : Die H a) (g : Go a H H') (h : SqT K H b xs) : SqT K H' b xs := by
  rcases h with (h | ⟨o, h⟩) | h
  · exact .inl (.inl (g.1 _ _ (d.neT h (by intro xs z; cases z)) h))
  · exact .inl (.inr ⟨o, g.1 _ _ (d.neT h (by intro xs z; cases z)) h⟩)
  · exact .inr h
/-! ### the module's names -/
structure Nm (mg : Str → Option Value) : Prop where
  b_isinstance : mg "isinstance" = none
  b_int : mg "int" = none
  b_bool : mg "bool" = none
  b_str : mg "str" = none
  b_tuple : mg "tuple" = none
  b_list : mg "list" = none
  b_len : mg "len" = none
  b_all : mg "all" = none
  b_sum : mg "sum" = none
  b_set : mg "set" = none
  b_range : mg "range" = none
  b_abs : mg "abs" = none
  b_max : mg "max" = none
  b_min : mg "min" = none
  b_sorted : mg "sorted" = none
  b_divmod : mg "divmod" = none
  b_repr : mg "repr" = none
  b_zip : mg "zip" = none
  g_MAX_MODES : ∃ t, mg "MAX_MODES" = some (.int 3 t)
theorem at0 {x : V} {xs : List V} : atI (x :: xs) 0 = some x := atI_nat (j := 0) rfl
theorem at1 {x y : V} {xs : List V} : atI (x :: y :: xs) 1 = some y := atI_nat (j := 1) rfl
theorem at2 {x y z : V} {xs : List V} : atI (x :: y :: z :: xs) 2 = some z := atI_nat (j := 2) rfl
/-! ### values that are passed -/
/-- None, a bool, a whole number, a tuple, a list, a dict -/
inductive Pl (K : PySem.W.Frag) (H : Hp) : V → Prop
  | non : Pl K H .non
  | bl (b : Bool) : Pl K H (.bl b)
  | int (i : Int) : Pl K H (.int i)
  | tup {p : Addr} {xs : List V} (e : SqT K H p xs) : Pl K H (.ref p)
  | lst {p : Addr} {xs : List V} (e : H p = some (.lst xs)) : Pl K H (.ref p)
  | dct {p : Addr} {kvs : List (Key × V)} (e : H p = some (.dK kvs)) : Pl K H (.ref p)
def isI : V → Bool
  | .int _ => true
  | _ => false
/-- an integer from a to b -/
def inB (a b : Int) : V → Bool
  | .int i => decide (a ≤ i) && decide (i ≤ b)
  | _ => false
/-! ### pairs -/
def prV (p : Pr) : List V := [.int (p.1 : Int), .int (p.2 : Int)]
def Prs (K : PySem.W.Frag) (H : Hp) (ks : List (Addr × Pr)) : Prop := ∀ q ∈ ks, SqT K H q.1 (prV q.2)
abbrev refs (ks : List (Addr × Pr)) : List V := ks.map fun q => V.ref q.1
abbrev prsOf (ks : List (Addr × Pr)) : List Pr := ks.map (·.2)
theorem Prs.same {K : PySem.W.Frag} {H H' : Hp} {ks : List (Addr × Pr)} (g : Prs K H ks) (s : Same H H') : Prs K H' ks := fun q hq => Same.sqT s (g q hq)
theorem Prs.go {K : PySem.W.Frag} {H H' : Hp} {a : Addr} {ks : List (Addr × Pr)} (g : Prs K H ks) (d : Die H a) (s : Go a H H') : Prs K H' ks := fun q hq => Go.sqT d s (g q hq)
theorem Prs.nil {K : PySem.W.Frag} {H : Hp} : Prs K H [] := fun q hq => nomatch hq
theorem Prs.app {K : PySem.W.Frag} {H : Hp} {ks ls : List (Addr × Pr)} (a : Prs K H ks) (b : Prs K H ls) : Prs K H (ks ++ ls) := fun q hq => (List.mem_append.mp hq).elim (a q) (b q)
theorem Prs.one {K : PySem.W.Frag} {H : Hp} {p : Addr} {x : Pr} (h : SqT K H p (prV x)) : Prs K H [(p, x)] := fun q hq => by
  cases List.mem_singleton.mp hq
  exact h
/-! ### spaces -/
def en (m : Nat) (b : Bool) : Nat := m + b.toNat
def spF (m : Nat) (b : Bool) : List (Str × V) := [("_modes", .int (m : Int)), ("_watched", .bl b), ("_ends", .int (en m b : Nat)), ("_size", .int ((2 ^ (m * en m b) : Nat) : Int)), ("_same", .int (sameN m (en m b) : Nat))]
def SpAt (C : Addr) (H : Hp) (p : Addr) (m : Nat) (b : Bool) : Prop := (1 ≤ m ∧ m ≤ 3) ∧ ∃ dx, H p = some (.ins C dx (spF m b))
theorem SpAt.same {C : Addr} {H H' : Hp} {p : Addr} {m : Nat} {b : Bool} (h : SpAt C H p m b) (s : Same H H') : SpAt C H' p m b := ⟨h.1, by
  obtain ⟨dx, e⟩ := h.2
  exact ⟨dx, s _ _ e⟩⟩
theorem SpAt.go {C : Addr} {H H' : Hp} {p a : Addr} {m : Nat} {b : Bool} (h : SpAt C H p m b) (d : Die H a) (s : Go a H H') : SpAt C H' p m b := ⟨h.1, by
  obtain ⟨dx, e⟩ := h.2
  exact ⟨dx, s.1 _ _ (d.neT e (by intro xs z; cases z)) e⟩⟩
theorem en_le {m : Nat} {b : Bool} (h : 1 ≤ m ∧ m ≤ 3) : 1 ≤ en m b ∧ en m b ≤ 4 := by
  unfold en
  cases b <;> simp [Bool.toNat] <;> omega
theorem men_le {m : Nat} {b : Bool} (h : 1 ≤ m ∧ m ≤ 3) : m * en m b ≤ 12 := by
  have h1 := (en_le (b := b) h).2
  have := Nat.mul_le_mul h.2 h1
  omega
theorem size_le {m : Nat} {b : Bool} (h : 1 ≤ m ∧ m ≤ 3) : 2 ^ (m * en m b) ≤ 4096 := Nat.pow_le_pow_right (n := 2) (by decide) (men_le h)
/-- the class -/
structure SpC (K : PySem.W.Frag) (mg : Str → Option Value) (C : Addr) : Prop where
  cl : Cls K C
  gC : mg "Space" = some (.ref C)
  a1 : PySem.W.findIn K (.ref C) "_modes" = some none
  a2 : PySem.W.findIn K (.ref C) "_watched" = some none
  a3 : PySem.W.findIn K (.ref C) "_ends" = some none
  a4 : PySem.W.findIn K (.ref C) "_size" = some none
  a5 : PySem.W.findIn K (.ref C) "_same" = some none
  ha : PySem.W.findIn K (.ref C) "__class__" = some (some (.builtin "object.__class__"))
  hn : PySem.W.specialIn K (.builtin "object.__class__") "__get__" = some (some (.builtin "getset_descriptor.__get__"))
  htk : PySem.W.takesIn K (.builtin "object.__class__") = some true
  hm : PySem.W.mroIn K C (.type "object") = some true
  self : PySem.W.kitOne K (.ref C) (.ref C) = some true
  kt : PySem.W.kitOne K (.type "tuple") (.ref C) = some false
  nt : PySem.W.notFirst K C (.type "tuple") = true
  ns : PySem.W.notFirst K C (.ref C) = true
theorem lkH {k : Str} {v : V} {r : List (Str × V)} : List.lookup k ((k, v) :: r) = some v := by
  have e : (k == k) = true := beq_self_eq_true k
  simp only [List.lookup, e]
theorem lkP {k g : Str} {v : V} {r : List (Str × V)} (h : (k == g) = false) : List.lookup k ((g, v) :: r) = List.lookup k r := by
  simp only [List.lookup, h]
theorem putA {f g : Str} {v x : V} {r : List (Str × V)} (h : ¬ g = f) : putF f v ((g, x) :: r) = (g, x) :: putF f v r := if_neg h
section
variable {m : Nat} {b : Bool}
theorem lk1 : (spF m b).lookup ("_modes" : Str) = some (.int (m : Int)) := lkH
theorem lk2 : (spF m b).lookup ("_watched" : Str) = some (.bl b) := (lkP (by decide +kernel)).trans lkH
theorem lk3 : (spF m b).lookup ("_ends" : Str) = some (.int (en m b : Nat)) := (lkP (by decide +kernel)).trans ((lkP (by decide +kernel)).trans lkH)
theorem lk4 : (spF m b).lookup ("_size" : Str) = some (.int ((2 ^ (m * en m b) : Nat) : Int)) := (lkP (by decide +kernel)).trans ((lkP (by decide +kernel)).trans ((lkP (by decide +kernel)).trans lkH))
theorem lk5 : (spF m b).lookup ("_same" : Str) = some (.int (sameN m (en m b) : Nat)) := (lkP (by decide +kernel)).trans ((lkP (by decide +kernel)).trans ((lkP (by decide +kernel)).trans ((lkP (by decide +kernel)).trans lkH)))
end
section
variable {a b c d v : V}
theorem pf2 : putF "_watched" v [("_modes", a)] = ([("_modes", a), ("_watched", v)] : List (Str × V)) := by
  rw [putA (by decide +kernel)]
  rfl
theorem pf3 : putF "_ends" v [("_modes", a), ("_watched", b)] = ([("_modes", a), ("_watched", b), ("_ends", v)] : List (Str × V)) := by
  rw [putA (by decide +kernel), putA (by decide +kernel)]
  rfl
theorem pf4 : putF "_size" v [("_modes", a), ("_watched", b), ("_ends", c)] = ([("_modes", a), ("_watched", b), ("_ends", c), ("_size", v)] : List (Str × V)) := by
  rw [putA (by decide +kernel), putA (by decide +kernel), putA (by decide +kernel)]
  rfl
theorem pf5 : putF "_same" v [("_modes", a), ("_watched", b), ("_ends", c), ("_size", d)] = ([("_modes", a), ("_watched", b), ("_ends", c), ("_size", d), ("_same", v)] : List (Str × V)) := by
  rw [putA (by decide +kernel), putA (by decide +kernel), putA (by decide +kernel), putA (by decide +kernel)]
  rfl
theorem lkm1 : ([("_modes", a), ("_watched", b), ("_ends", c)] : List (Str × V)).lookup ("_ends" : Str) = some c := (lkP (by decide +kernel)).trans ((lkP (by decide +kernel)).trans lkH)
theorem lkm2 : ([("_modes", a), ("_watched", b), ("_ends", c), ("_size", d)] : List (Str × V)).lookup ("_ends" : Str) = some c := (lkP (by decide +kernel)).trans ((lkP (by decide +kernel)).trans lkH)
end
/-! ### the promises -/
def spInt (K : PySem.W.Frag) : Sp := fun vs H Q _ => ∃ v, vs = [v] ∧ Pl K H v ∧ Q (.bl (isI v)) H
def spIntIn (K : PySem.W.Frag) : Sp := fun vs H Q _ => ∃ (v : V) (a b : Int), vs = [v, .int a, .int b] ∧ Pl K H v ∧ Q (.bl (inB a b v)) H
def spSame : Sp := fun vs H Q _ => ∃ m e : Nat, vs = [.int (m : Int), .int (e : Int)] ∧ m ≤ 3 ∧ e ≤ 4 ∧ ∀ H', Same H H' → Q (.int (sameN m e : Nat)) H'
def spInit (C : Addr) : Sp := fun vs H Q _ => ∃ (p dx : Addr) (m : Nat) (b : Bool), vs = [.ref p, .int (m : Int), .bl b] ∧ H p = some (.ins C dx []) ∧ 1 ≤ m ∧ m ≤ 3 ∧ ∀ H', (∀ c o, c ≠ p → H c = some o → H' c = some o) → H' p = some (.ins C dx (spF m b)) → Q .non H'
/-- a field -/
def spGet (C : Addr) (x : Str) : Sp := fun vs H Q _ => ∃ (a dx : Addr) (fs : List (Str × V)) (v : V), vs = [.ref a] ∧ H a = some (.ins C dx fs) ∧ fs.lookup x = some v ∧ Q v H
def spIsRel (C : Addr) (K : PySem.W.Frag) : Sp := fun vs H Q _ => ∃ (p : Addr) (m : Nat) (b : Bool) (v : V), vs = [.ref p, v] ∧ SpAt C H p m b ∧ Pl K H v ∧ Q (.bl (inB 0 ((2 ^ (m * en m b) : Nat) - 1) v)) H
def spChkRel (C : Addr) : Sp := fun vs H Q _ => ∃ (p : Addr) (m : Nat) (b : Bool) (r : Nat), vs = [.ref p, .int (r : Int)] ∧ SpAt C H p m b ∧ r < 2 ^ (m * en m b) ∧ Q .non H
def spPairsOf (K : PySem.W.Frag) : Sp := fun vs H Q _ => ∃ r m e : Nat, vs = [.int (r : Int), .int (m : Int), .int (e : Int)] ∧ m * e ≤ 12 ∧ 1 ≤ e ∧ e ≤ 4 ∧ m ≤ 3 ∧ r < 2 ^ (m * e) ∧ ∀ (H' : Hp) (D : Addr) (ks : List (Addr × Pr)), Same H H' → H' D = some (.lst (refs ks)) → Prs K H' ks → prsOf ks = prs e r → Q (.ref D) H'
def spPairsP (C : Addr) (K : PySem.W.Frag) : Sp := fun vs H Q _ => ∃ (p : Addr) (m : Nat) (b : Bool) (r : Nat), vs = [.ref p, .int (r : Int)] ∧ SpAt C H p m b ∧ r < 2 ^ (m * en m b) ∧ ∀ H' l ks, Same H H' → SqT K H' l (refs ks) → Prs K H' ks → prsOf ks = prs (en m b) r → Q (.ref l) H'
def spIsPair (C : Addr) (K : PySem.W.Frag) : Sp := fun vs H Q _ => ∃ (p t : Addr) (m : Nat) (b : Bool) (x : Pr), vs = [.ref p, .ref t] ∧ SpAt C H p m b ∧ SqT K H t (prV x) ∧ x.1 < m ∧ x.2 < en m b ∧ Q (.bl true) H
def spRelation (C : Addr) (K : PySem.W.Frag) : Sp := fun vs H Q _ => ∃ (p l : Addr) (m : Nat) (b : Bool) (ks : List (Addr × Pr)), vs = [.ref p, .ref l] ∧ SpAt C H p m b ∧ SqT K H l (refs ks) ∧ Prs K H ks ∧ (prsOf ks).Nodup ∧ ks.length < 64 ∧ (∀ x ∈ prsOf ks, x.1 < m ∧ x.2 < en m b) ∧ ∀ H', Same H H' → Q (.int (bitsN (en m b) (prsOf ks) : Nat)) H'
def spTwo (C : Addr) (g : Nat → Nat → Nat → Nat → V) : Sp := fun vs H Q _ => ∃ (p : Addr) (m : Nat) (b : Bool) (r s : Nat), vs = [.ref p, .int (r : Int), .int (s : Int)] ∧ SpAt C H p m b ∧ r < 2 ^ (m * en m b) ∧ s < 2 ^ (m * en m b) ∧ ∀ H', Same H H' → Q (g m (en m b) r s) H'
def gOr : Nat → Nat → Nat → Nat → V := fun _ _ r s => .int ((r ||| s : Nat) : Int)
def gIn : Nat → Nat → Nat → Nat → V := fun _ _ r s => .bl (decide (r ||| s = s))
/-- == with a space or a tuple -/
def spEq (C : Addr) (K : PySem.W.Frag) : Sp := fun vs H Q _ => ∃ (p : Addr) (m : Nat) (b : Bool) (y : V), vs = [.ref p, y] ∧ SpAt C H p m b ∧
  ((∃ q n c, y = .ref q ∧ SpAt C H q n c ∧ Q (.bl (decide (m = n) && (b == c))) H) ∨ (∃ t xs, y = .ref t ∧ SqT K H t xs ∧ Q (.bl false) H))
def txt (m : Nat) (b : Bool) : Str := Str.ofString (toString ((2 ^ (m * en m b) : Nat) : Int)) ++ (" relations of " : Str) ++ Str.ofString (toString (m : Int)) ++ (" modes" : Str) ++ (if b = true then (", watched" : Str) else ("" : Str))
def spStr (C : Addr) : Sp := fun vs H Q _ => ∃ (p : Addr) (m : Nat) (b : Bool), vs = [.ref p] ∧ SpAt C H p m b ∧ Q (.str (txt m b)) H
/-! the law's own -/
def spUrn (K : PySem.W.Frag) : Sp := fun vs H Q _ => ∃ (a : Addr) (ns : List Int) (i : Nat), vs = [.ref a, .int (i : Int)] ∧ SqL K H a (ns.map V.int) ∧ i ≤ 1000 ∧ ∀ H' p, Same H H' → H p = none → Die H' p → Q (.ref p) H'
def spTake : Sp := fun vs H Q _ => ∃ (a : Addr) (n : Nat), vs = [.ref a, .int (n : Int)] ∧ Die H a ∧ 0 < n ∧ n < 1000000 ∧ ∀ (r : Nat) H', r < n → Go a H H' → (∀ b, b ≠ a → H' b = H b) → Q (.int (r : Int)) H'
def spOne (K : PySem.W.Frag) : Sp := fun vs H Q _ => ∃ (a b : Addr) (xs : List V), Die H a ∧ vs = [.ref a, .ref b] ∧ SqL K H b xs ∧ b ≠ a ∧ xs ≠ [] ∧ xs.length < 1000 ∧ ∀ v H', v ∈ xs → Go a H H' → (∀ b, b ≠ a → H' b = H b) → Q v H'
def spSome (K : PySem.W.Frag) : Sp := fun vs H Q _ => ∃ (a b : Addr) (xs : List V), vs = [.ref a, .ref b, .int (xs.length : Nat)] ∧ Die H a ∧ SqL K H b xs ∧ b ≠ a ∧ xs.length ≤ 100 ∧ ∀ (ys : List V) H' p, ys.Perm xs → Go a H H' → H p = none → p ≠ a → H' p = some (.lst ys) → Q (.ref p) H'
def spPairsL (K : PySem.W.Frag) : Sp := fun vs H Q _ => ∃ (e r : Nat), vs = [.int (e : Int), .int (r : Int)] ∧ 1 ≤ e ∧ e ≤ 4 ∧ r < 4096 ∧ ∀ H' l ks, Same H H' → H l = none → H' l = some (.lst (refs ks)) → Prs K H' ks → prsOf ks = prs e r → Q (.ref l) H'
def spBits (K : PySem.W.Frag) : Sp := fun vs H Q _ => ∃ (e : Nat) (l : Addr) (ks : List (Addr × Pr)), vs = [.int (e : Int), .ref l] ∧ 1 ≤ e ∧ e ≤ 4 ∧ SqL K H l (refs ks) ∧ Prs K H ks ∧ ks.length < 64 ∧ (∀ x ∈ prsOf ks, x.2 < e ∧ cd e x < 12) ∧ ∀ H', Same H H' → Q (.int (bitsN e (prsOf ks) : Nat)) H'
def spWithin (K : PySem.W.Frag) : Sp := fun vs H Q _ => ∃ (l1 l2 : Addr) (ks ls : List (Addr × Pr)), vs = [.ref l1, .ref l2] ∧ SqL K H l1 (refs ks) ∧ SqL K H l2 (refs ls) ∧ Prs K H ks ∧ Prs K H ls ∧ ks.length ≤ 100 ∧ ls.length ≤ 100 ∧ ∀ H', Same H H' → Q (.bl (decide (((prsOf ks).filter fun p => decide (p ∉ prsOf ls)) = []))) H'
def spSizes : Sp := fun vs H Q _ => ∃ (m : Nat) (b : Bool), vs = [.int (m : Int), .bl b] ∧ 1 ≤ m ∧ m ≤ 3 ∧ ∀ H' l, Same H H' → H l = none → H' l = some (.lst [.int (en m b : Nat), .int ((2 ^ (m * en m b) : Nat) : Int)]) → Q (.ref l) H'
def spRight : Sp := fun vs H Q _ => ∃ (a : Addr), vs = [.ref a] ∧ Die H a ∧ ∀ H', Go a H H' → Q (.bl true) H'
def spLaw (K : PySem.W.Frag) : Sp := fun vs H Q _ => ∃ (a : Addr) (ns : List Int), vs = [.ref a] ∧ SqL K H a (ns.map V.int) ∧ ns.length ≤ 63 ∧ ∀ H', Q (.bl true) H'
end SQ

set_option Elab.async false
set_option linter.all false
set_option maxRecDepth 100000
set_option maxHeartbeats 4000000
/-! comprehensions whose turns only make new objects (or draw) -/
namespace SQ
open PySem PySem.Spec PyProof.Rows L2
inductive Al {α : Type} (Φ : α → V → Prop) : List α → List V → Prop
  | nil : Al Φ [] []
  | cons {m : α} {y : V} {ms : List α} {ys : List V} : Φ m y → Al Φ ms ys → Al Φ (m :: ms) (y :: ys)
theorem Al.len {α : Type} {Φ : α → V → Prop} {ms : List α} {ys : List V} (a : Al Φ ms ys) : ys.length = ms.length := by
  induction a with
  | nil => rfl
  | cons _ _ ih => rw [List.length_cons, List.length_cons, ih]
theorem Al.snoc {α : Type} {Φ : α → V → Prop} {ms : List α} {ys : List V} {m : α} {y : V} (a : Al Φ ms ys) (h : Φ m y) : Al Φ (ms ++ [m]) (ys ++ [y]) := by
  induction a with
  | nil => exact .cons h .nil
  | cons x _ ih => exact .cons x ih
theorem Al.mono {α : Type} {Φ Ψ : α → V → Prop} {ms : List α} {ys : List V} (h : ∀ m y, Φ m y → Ψ m y) (a : Al Φ ms ys) : Al Ψ ms ys := by
  induction a with
  | nil => exact .nil
  | cons x _ ih => exact .cons (h _ _ x) ih
theorem Al.map {α : Type} {f : α → V} {ms : List α} {ys : List V} (a : Al (fun m y => y = f m) ms ys) : ys = ms.map f := by
  induction a with
  | nil => rfl
  | cons x _ ih => rw [x, ih]; rfl
/-- what a turn may do to the heap -/
structure Rg (R : Hp → Hp → Prop) (D : Addr) (H1 : Hp) : Prop where
  ini : R H1 (upd H1 D (.lst []))
  trans : ∀ {H H'}, R H1 H → R H H' → R H1 H'
  keep : ∀ {H H' o}, R H1 H → R H H' → H D = some o → H' D = some o
  set : ∀ {H o}, R H1 H → R H1 (upd H D o)
  put : ∀ {H o}, R H1 H → ∀ (b : Addr) (u : HO), b ≠ D → H b = some u → upd H D o b = some u
theorem Rg.same {D : Addr} {H1 : Hp} (n : H1 D = none) : Rg Same D H1 := ⟨same_upd n, fun a b => a.trans b, fun _ b e => b _ _ e, fun a => Same.set a n, fun _ b u hb e => by rw [upd_ne hb]; exact e⟩
theorem Rg.go {D a : Addr} {H1 : Hp} (d : Die H1 a) (n : H1 D = none) : Rg (Go a) D H1 := ⟨.new d n, fun a b => a.trans b, fun _ b e => b.1 _ _ (d.ne n) e, fun {H o} s => ⟨fun b u hb e => by
    rw [upd_ne (ne_of_none e n)]
    exact s.1 b u hb e, by
    obtain ⟨x, y, z, e⟩ := s.2
    exact ⟨x, y, z, by rw [upd_ne (d.ne n).symm]; exact e⟩⟩, fun _ b u hb e => by rw [upd_ne hb]; exact e⟩
theorem filt_more {α : Type} {ms : List α} {i : Nat} {m : α} (p : α → Bool) (h : ms[i]? = some m) : (ms.take (i + 1)).filter p = (ms.take i).filter p ++ if p m = true then [m] else [] := by
  rw [take_next h, List.filter_append]
  by_cases e : p m = true
  · rw [if_pos e, List.filter_cons_of_pos e]
    rfl
  · rw [if_neg e, List.filter_cons_of_neg e]
    rfl
section
variable {α : Type} {g : TG} {tt : TT} {te : TE} {vs : List Nat} {σ : L2.St} {H1 : Hp} {D : Addr} {Qd : Hp → Prop} {R : Hp → Hp → Prop} {ms : List α} {gv : α → V} {p : α → Bool} {Φ : α → V → Hp → Prop}
/-- the state between two turns -/
def Mid (R : Hp → Hp → Prop) (p : α → Bool) (Φ : α → V → Hp → Prop) (ms : List α) (D : Addr) (H1 : Hp) (i : Nat) (H : Hp) : Prop := R H1 H ∧ ∃ ys, H D = some (.lst ys) ∧ Al (fun m y => Φ m y H) ((ms.take i).filter p) ys
theorem Mid.ini (r : Rg R D H1) : Mid R p Φ ms D H1 0 (upd H1 D (.lst [])) := ⟨r.ini, [], upd_same, by rw [List.take_zero]; exact .nil⟩
theorem Mid.turn (r : Rg R D H1) (st : ∀ m y H H', R H1 H → R H H' → Φ m y H → Φ m y H') (su : ∀ m y H o, R H1 H → Φ m y H → Φ m y (upd H D o)) (few : ms.length < 1000000) {i : Nat} {m : α} {H : Hp} (hm : ms[i]? = some m) (md : Mid R p Φ ms D H1 i H) :
    (p m = true → ∀ y H4, R H H4 → Φ m y H4 → ∃ acc, H4 D = some (.lst acc) ∧ acc.length < sizeLine ∧ Mid R p Φ ms D H1 (i + 1) (upd H4 D (.lst (acc ++ [y])))) ∧ (p m = false → ∀ H4, R H H4 → Mid R p Φ ms D H1 (i + 1) H4) := by
  obtain ⟨r1, ys, e, al⟩ := md
  have hi : i < ms.length := (List.getElem?_eq_some_iff.mp hm).1
  refine ⟨fun hp y H4 r4 h => ?_, fun hp H4 r4 => ?_⟩
  · refine ⟨ys, r.keep r1 r4 e, ?_, r.set (r.trans r1 r4), ys ++ [y], upd_same, ?_⟩
    · rw [al.len, sizeLine_eq]
      have := List.length_filter_le p (ms.take i)
      rw [List.length_take] at this
      omega
    · rw [filt_more p hm, if_pos hp]
      exact (al.mono fun m y h => su m y H4 _ (r.trans r1 r4) (st m y H H4 r1 r4 h)).snoc (su m y H4 _ (r.trans r1 r4) h)
  · refine ⟨r.trans r1 r4, ys, r.keep r1 r4 e, ?_⟩
    rw [filt_more p hm, if_neg (by rw [hp]; decide), List.append_nil]
    exact al.mono fun m y h => st m y H H4 r1 r4 h
/-- [.. for x in xs if ..], xs a list -/
theorem lcL {K : PySem.W.Frag} {a : Addr} {xs : List V} (ms : List α) (gv : α → V) (p : α → Bool) (Φ : α → V → Hp → Prop) (hx : xs = ms.map gv) (r : Rg R D H1) (sq : ∀ H, R H1 H → SqL K H a xs) (st : ∀ m y H H', R H1 H → R H H' → Φ m y H → Φ m y H') (su : ∀ m y H o, R H1 H → Φ m y H → Φ m y (upd H D o)) (few : ms.length < 1000000)
    (hs : ∀ m H (Ok : V → Hp → Prop) (No : Hp → Prop), m ∈ ms → R H1 H → (∃ o, H D = some o) → (p m = true → ∀ y H4, R H H4 → Φ m y H4 → Ok y H4) → (p m = false → ∀ H4, R H H4 → No H4) → g (gv m) (wipe σ vs) H fun σ2 H2 => wipe σ2 vs = wipe σ vs ∧ tt σ2 H2 fun b H3 => if b = true then te σ2 H3 Ok else No H3)
    (hd : ∀ H ys, R H1 H → H D = some (.lst ys) → Al (fun m y => Φ m y H) (ms.filter p) ys → Qd H) :
    ∃ W : Nat → Nat → Hp → Prop, (∃ m, W 0 m (upd H1 D (.lst []))) ∧ ∀ i m H, W i m H →
      ((Itl K a).stop i H ∧ Qd H) ∨ ((Itl K a).go i H ∧ ∃ Nx : Hp → Prop, (∀ H', Nx H' → ∃ m', m' < m ∧ W (i + 1) m' H') ∧ ∀ x H', (Itl K a).yld i H x H' → g x (wipe σ vs) H' fun σ2 H2 => wipe σ2 vs = wipe σ vs ∧ tt σ2 H2 fun b H3 =>
        if b = true then te σ2 H3 fun y H4 => ∃ acc, H4 D = some (.lst acc) ∧ acc.length < sizeLine ∧ Nx (upd H4 D (.lst (acc ++ [y]))) else Nx H3) := by
  subst hx
  refine lc_list (xs := ms.map gv) (Mid R p Φ ms D H1) (Mid.ini r) (fun i H _ h => sq H h.1) (fun i x H hx md => ?_) (fun H md => ?_)
  · rw [List.getElem?_map] at hx
    obtain ⟨m, hm, rfl⟩ := Option.map_eq_some_iff.mp hx
    obtain ⟨t1, t2⟩ := Mid.turn r st su few hm md
    exact hs m H _ _ (List.mem_of_getElem? hm) md.1 (md.2.elim fun _ z => ⟨_, z.1⟩) t1 t2
  · obtain ⟨r1, ys, e, al⟩ := md
    rw [List.length_map, List.take_length] at al
    exact hd H ys r1 e al
/-- .. xs a tuple -/
theorem lcT {K : PySem.W.Frag} {a : Addr} {xs : List V} (ms : List α) (gv : α → V) (p : α → Bool) (Φ : α → V → Hp → Prop) (hx : xs = ms.map gv) (r : Rg R D H1) (sq : ∀ H, R H1 H → SqT K H a xs) (st : ∀ m y H H', R H1 H → R H H' → Φ m y H → Φ m y H') (su : ∀ m y H o, R H1 H → Φ m y H → Φ m y (upd H D o)) (few : ms.length < 1000000)
    (hs : ∀ m H (Ok : V → Hp → Prop) (No : Hp → Prop), m ∈ ms → R H1 H → (∃ o, H D = some o) → (p m = true → ∀ y H4, R H H4 → Φ m y H4 → Ok y H4) → (p m = false → ∀ H4, R H H4 → No H4) → g (gv m) (wipe σ vs) H fun σ2 H2 => wipe σ2 vs = wipe σ vs ∧ tt σ2 H2 fun b H3 => if b = true then te σ2 H3 Ok else No H3)
    (hd : ∀ H ys, R H1 H → H D = some (.lst ys) → Al (fun m y => Φ m y H) (ms.filter p) ys → Qd H) :
    ∃ W : Nat → Nat → Hp → Prop, (∃ m, W 0 m (upd H1 D (.lst []))) ∧ ∀ i m H, W i m H →
      ((Itt K a).stop i H ∧ Qd H) ∨ ((Itt K a).go i H ∧ ∃ Nx : Hp → Prop, (∀ H', Nx H' → ∃ m', m' < m ∧ W (i + 1) m' H') ∧ ∀ x H', (Itt K a).yld i H x H' → g x (wipe σ vs) H' fun σ2 H2 => wipe σ2 vs = wipe σ vs ∧ tt σ2 H2 fun b H3 =>
        if b = true then te σ2 H3 fun y H4 => ∃ acc, H4 D = some (.lst acc) ∧ acc.length < sizeLine ∧ Nx (upd H4 D (.lst (acc ++ [y]))) else Nx H3) := by
  subst hx
  refine lc_tup (xs := ms.map gv) (Mid R p Φ ms D H1) (Mid.ini r) (fun i H _ h => sq H h.1) (fun i x H hx md => ?_) (fun H md => ?_)
  · rw [List.getElem?_map] at hx
    obtain ⟨m, hm, rfl⟩ := Option.map_eq_some_iff.mp hx
    obtain ⟨t1, t2⟩ := Mid.turn r st su few hm md
    exact hs m H _ _ (List.mem_of_getElem? hm) md.1 (md.2.elim fun _ z => ⟨_, z.1⟩) t1 t2
  · obtain ⟨r1, ys, e, al⟩ := md
    rw [List.length_map, List.take_length] at al
    exact hd H ys r1 e al
/-- .. range(n) -/
theorem lcR {n : Nat} (p : Nat → Bool) (Φ : Nat → V → Hp → Prop) (r : Rg R D H1) (st : ∀ m y H H', R H1 H → R H H' → Φ m y H → Φ m y H') (su : ∀ m y H o, R H1 H → Φ m y H → Φ m y (upd H D o)) (few : n < 1000000)
    (hs : ∀ (m : Nat) H (Ok : V → Hp → Prop) (No : Hp → Prop), m < n → R H1 H → (∃ o, H D = some o) → (p m = true → ∀ y H4, R H H4 → Φ m y H4 → Ok y H4) → (p m = false → ∀ H4, R H H4 → No H4) → g (.int (m : Int)) (wipe σ vs) H fun σ2 H2 => wipe σ2 vs = wipe σ vs ∧ tt σ2 H2 fun b H3 => if b = true then te σ2 H3 Ok else No H3)
    (hd : ∀ H ys, R H1 H → H D = some (.lst ys) → Al (fun m y => Φ m y H) ((List.range n).filter p) ys → Qd H) :
    ∃ W : Nat → Nat → Hp → Prop, (∃ m, W 0 m (upd H1 D (.lst []))) ∧ ∀ i m H, W i m H →
      ((Itr 0 n).stop i H ∧ Qd H) ∨ ((Itr 0 n).go i H ∧ ∃ Nx : Hp → Prop, (∀ H', Nx H' → ∃ m', m' < m ∧ W (i + 1) m' H') ∧ ∀ x H', (Itr 0 n).yld i H x H' → g x (wipe σ vs) H' fun σ2 H2 => wipe σ2 vs = wipe σ vs ∧ tt σ2 H2 fun b H3 =>
        if b = true then te σ2 H3 fun y H4 => ∃ acc, H4 D = some (.lst acc) ∧ acc.length < sizeLine ∧ Nx (upd H4 D (.lst (acc ++ [y]))) else Nx H3) := by
  refine lc_range (lo := 0) (n := n) (Mid R p Φ (List.range n) D H1) (Mid.ini r) (fun i H hi md => ?_) (fun H md => ?_)
  · have hm : (List.range n)[i]? = some i := by rw [List.getElem?_range hi]
    obtain ⟨t1, t2⟩ := Mid.turn r st su (by rw [List.length_range]; exact few) hm md
    rw [Int.zero_add]
    exact hs i H _ _ hi md.1 (md.2.elim fun _ z => ⟨_, z.1⟩) t1 t2
  · obtain ⟨r1, ys, e, al⟩ := md
    rw [List.take_of_length_le (by rw [List.length_range]; exact Nat.le_refl _)] at al
    exact hd H ys r1 e al
end
/-- for k in range(n) -/
theorem for_rgN {n : Nat} {g : TG} {tb : TS} {D : Ends} {σ : L2.St} {H : Hp} (Pv : Nat → L2.St → Hp → Prop) (h0 : Pv 0 σ H)
    (hs : ∀ (i : Nat) σ H, i < n → Pv i σ H → g (.int (i : Int)) σ H fun σ2 H2 => tb { D with nx := Pv (i + 1), ct := Pv (i + 1), bk := D.nx } σ2 H2) (hd : ∀ σ H, Pv n σ H → D.nx σ H) :
    ∃ W : Nat → Nat → L2.St → Hp → Prop, (∃ m, W 0 m σ H) ∧ ∀ i m σ H, W i m σ H →
      ((Itr 0 n).stop i H ∧ D.nx σ H) ∨ ((Itr 0 n).go i H ∧ ∃ N : L2.St → Hp → Prop, (∀ σ' H', N σ' H' → ∃ m', m' < m ∧ W (i + 1) m' σ' H') ∧ ∀ x H', (Itr 0 n).yld i H x H' → g x σ H' fun σ2 H2 => tb { D with nx := N, ct := N, bk := D.nx } σ2 H2) :=
  for_range (lo := 0) (n := n) Pv h0 (fun i σ H hi p => by rw [Int.zero_add]; exact hs i σ H hi p) hd
end SQ

set_option Elab.async false
set_option linter.all false
set_option maxRecDepth 100000
set_option maxHeartbeats 4000000
/-! own methods, properties, the making of a space -/
namespace SQ
open PySem PySem.Spec PyProof.Rows L2
/-- a method -/
structure MCal (P : Program) (w : World) (K : PySem.W.Frag) (mg : Str → Option Value) (base : Heap) (C : Addr) (k : Nat) (x : Str) (ps : List Str) (sp : Sp) : Prop where
  ex : ∃ (f : Addr) (fd : FuncData), FnOk P w K mg base CX0 k f fd ps sp ∧ Meth K C x f ∧ Binds K fd ps []
/-- a property -/
structure PrP (P : Program) (w : World) (K : PySem.W.Frag) (mg : Str → Option Value) (base : Heap) (C : Addr) (x g : Str) : Prop where
  ex : ∃ p f fd, PropOf K C x p f ∧ FnOk P w K mg base CX0 1 f fd ["self"] (spGet C g) ∧ Binds K fd ["self"] []
section
variable {X : Cx} {C : Addr} {e o : Expr} {es : List Expr} {ta : TE} {t : TA} {x g m : Str} {k : Nat} {ps : List Str} {sp : Sp} {p pos apos : Pos}
theorem pe_ownM {pl : Sem Bool} (M : MCal X.prog X.w X.K X.mg X.base C k m ps sp) (c : Cls X.K C) (hr : Room k X.A) (ho : PE X o ta) (ha : PA X (e :: es) t) (h1 : starEach (e :: es) X.env = (false, eval e X.env) :: starEach es X.env := by rfl) (h2 : (backTo pos (starEach es X.env)).any (·.1) = false := by rfl)
    (h3 : eval (.Call (.Attribute o m apos) (e :: es) [] pos) X.env = (do
      let ov ← eval o X.env
      standAt apos.atName
      let (f, first) ← holding [ov] (getMethod ov m pl)
      callWith pos f first (backTo pos (starEach (e :: es) X.env)) (backToKw pos (keywordEach [] X.env))) := by rfl) : PE X (.Call (.Attribute o m apos) (e :: es) [] pos) (tMeth C m sp [] E0 ta t) := by
  obtain ⟨f, fd, q1, q2, q3⟩ := M.ex
  exact pe_meth ho c q2 q1 hr q3 .nil pass0 ha h1 h2 h3
theorem pe_pr (R : PrP X.prog X.w X.K X.mg X.base C x g) (c : Cls X.K C) (hr : Room 2 X.A) (he : PE X e ta) (hab : attributeBase e x X.env (eval e X.env) = eval e X.env) : PE X (.Attribute e x pos) (tProp C (spGet C g) [] E0 ta) := by
  obtain ⟨q, f, fd, h1, h2, h3⟩ := R.ex
  exact pe_prop he c h1 h2 hr h3 .nil pass0 hab
end
theorem noF {x : Str} {m : Nat} {b : Bool} (h1 : (x == ("_modes" : Str)) = false := by decide +kernel) (h2 : (x == ("_watched" : Str)) = false := by decide +kernel) (h3 : (x == ("_ends" : Str)) = false := by decide +kernel) (h4 : (x == ("_size" : Str)) = false := by decide +kernel) (h5 : (x == ("_same" : Str)) = false := by decide +kernel) : (spF m b).lookup x = none :=
  (lkP h1).trans ((lkP h2).trans ((lkP h3).trans ((lkP h4).trans ((lkP h5).trans rfl))))
theorem ty_tup {K : PySem.W.Frag} {H : Hp} {a : Addr} {xs : List V} (h : SqT K H a xs) : TyX K H (.ref a) (.type "tuple") := by
  rcases h with (h | ⟨o, h⟩) | ⟨o, its, n, h, c, _⟩
  · exact .base (.tup h)
  · exact .fTuple h
  · exact .kTuple h c
section
variable {X : Cx} {K : PySem.W.Frag}
theorem ix_tupK (h : X.K = K) : IxR X (rIxT K) := by
  subst h
  exact ix_tup
theorem ix_listK (h : X.K = K) : IxR X (rIxL K) := by
  subst h
  exact ix_list
theorem pe_fldK {e : Expr} {te : TE} {f : Str} {pos : Pos} (h : X.K = K) (he : PE X e te) (hbase : attributeBase e f X.env (eval e X.env) = eval e X.env) : PE X (.Attribute e f pos) (tFld K te f) := by
  subst h
  exact pe_fld he hbase
def tTruth (K : PySem.W.Frag) (ta : TE) : TT := fun σ H Q => ta σ H fun x H' => ∃ k, TruV K x H' k ∧ Q k H'
theorem pt_truthK {a : Expr} {ta : TE} (h : X.K = K) (ha : PE X a ta) (he : ∀ whole, isTrue a X.env whole = (do let v ← whole; standAt a.pos; holding [v] (truthy v))) : PT X a (tTruth K ta) := by
  subst h
  exact pt_truth ha he
/-- not in, a list of data -/
def rNotL (K : PySem.W.Frag) : R2 := fun x y H Q => ∃ d ds, Dp K H x d ∧ Dp K H y (.list ds) ∧ SeqAt.shaped d = true ∧ SeqAt.shaped (.list ds) = true ∧ Q (.bl (!(ds.any fun z => PyData.eqv z d))) H
theorem op_notInLK (h : X.K = K) (hu : X.A.units + 65 < cLine) : OpR X (compareOp .NotIn) (rNotL K) := by
  subst h
  intro pins s σ H x y v u Q I rx ry h
  obtain ⟨d, ds, hd, he, sd, se, q⟩ := h
  obtain ⟨as, r1⟩ := Dp.reads I d x v hd rx
  obtain ⟨bs, r2⟩ := Dp.reads I (.list ds) y u he ry
  exact SeqAt.notIn_list_reads r2 r1 (SeqAt.canLay_of_shaped se) (SeqAt.canLay_of_shaped sd) (room_in_shaped sd hu) ⟨.bl _, H, I, rfl, q⟩
theorem op_eqDK (h : X.K = K) (hu : X.A.units + 64 < cLine) : OpR X (compareOp .Eq) (rEqD K) := by
  subst h
  exact op_eqD hu
theorem op_neDK (h : X.K = K) (hu : X.A.units + 64 < cLine) : OpR X (compareOp .NotEq) (rNeD K) := by
  subst h
  exact op_neD hu
end
/-- Space(..) with its keyword, or without -/
structure SpM (P : Program) (w : World) (K : PySem.W.Frag) (mg : Str → Option Value) (base : Heap) (C : Addr) : Prop where
  c : SpC K mg C
  ini : ∃ (f : Addr) (fd : FuncData), FnOk P w K mg base CX0 3 f fd ["self", "modes", "watched"] (spInit C) ∧ Mk K C f ∧ (∃ ds, Vals [V.bl false] ds ∧ Binds K fd ["self", "modes", "watched"] ds) ∧ KBn K fd ["self", "modes", "watched"] 2 ["watched"] (fun us ws => us ++ ws) (fun vs zs => vs ++ zs)
  eq : ∃ f fd, FnOk P w K mg base CX0 1 f fd ["self", "other"] (spEq C K) ∧ Binds K fd ["self", "other"] [] ∧ PySem.W.findIn K (.ref C) "__eq__" = some (some (.ref f)) ∧ PySem.W.isFn K (.ref f) = true
  ne : PySem.W.findIn K (.ref C) "__ne__" = some (some (.builtin "object.__ne__"))
  str : ∃ f fd, FnOk P w K mg base CX0 1 f fd ["self"] (spStr C) ∧ Binds K fd ["self"] [] ∧ PySem.W.findIn K (.ref C) "__str__" = some (some (.ref f)) ∧ PySem.W.isFn K (.ref f) = true
section
variable {X : Cx} {C : Addr} {e : Expr} {kws : List Keyword} {t tk : TA} {p pos : Pos}
theorem pe_mkS (G : SpM X.prog X.w X.K X.mg X.base C) (hr : Room 4 X.A) (hg : Gl X "Space") (ha : PA X [e] t) (he : starEach [e] X.env = (false, eval e X.env) :: starEach [] X.env := by rfl) (hpl : (backTo pos (starEach [] X.env)).any (·.1) = false := by rfl) :
    PE X (.Call (.Name "Space" p) [e] [] pos) (tMake C (spInit C) [.bl false] E0 t) := by
  obtain ⟨f, fd, h1, h2, ⟨ds, r, b⟩, _⟩ := G.ini
  exact pe_make h2 h1 hr hg G.c.gC b r pass0 ha (by decide) he hpl
theorem pe_mkW (G : SpM X.prog X.w X.K X.mg X.base C) (hr : Room 4 X.A) (hg : Gl X "Space") (ha : PA X [e] t) (hkw : PK X kws tk) (hall : (backToKw pos (keywordEach kws X.env)).all (·.1.isSome) = true := by rfl) (hks : (backToKw pos (keywordEach kws X.env)).filterMap (·.1) = ([("watched" : Str)] : List Str) := by rfl)
    (he : starEach [e] X.env = (false, eval e X.env) :: starEach [] X.env := by rfl) (hpl : ((backTo pos (starEach [e] X.env)).any (·.1) || (backToKw pos (keywordEach kws X.env)).any (·.1.isNone)) = false := by rfl) :
    PE X (.Call (.Name "Space" p) [e] kws pos) (tMakeK C 1 1 (spInit C) (fun vs zs => vs ++ zs) E0 t tk) := by
  obtain ⟨f, fd, h1, h2, _, kb⟩ := G.ini
  exact pe_makeK h2 h1 hr hg G.c.gC kb pass0 ha hkw hall hks (by decide) he hpl
theorem op_eqS (G : SpM X.prog X.w X.K X.mg X.base C) (hr : Room 1 X.A) : OpR X (compareOp .Eq) (rEqO X.K C (spEq C X.K) E0 false) := by
  obtain ⟨f, fd, h1, h2, h3, h4⟩ := G.eq
  exact op_eqOwn hr h1 h3 h4 h2 pass0
theorem op_neS (G : SpM X.prog X.w X.K X.mg X.base C) (hr : Room 2 X.A) : OpR X (compareOp .NotEq) (rEqO X.K C (spEq C X.K) E0 true) := by
  obtain ⟨f, fd, h1, h2, h3, h4⟩ := G.eq
  exact op_neOwn hr h1 h3 h4 h2 pass0 G.ne G.c.hm
theorem cr_strS (G : SpM X.prog X.w X.K X.mg X.base C) (hr : Room 3 X.A) : CallR X (.type "str") (fun xs H Q => ∃ a dx fs, xs = [.ref a] ∧ H a = some (.ins C dx fs) ∧ spStr C [.ref a] H (fun v H' => ∃ z, v = .str z ∧ Q (.str z) H') E0) := by
  obtain ⟨f, fd, h1, h2, h3, h4⟩ := G.str
  exact cr_strOwn hr h1 h3 h4 h2 pass0
end
end SQ
namespace SQ
open PySem PySem.Spec PyProof.Rows L2
theorem int_dec {n m : Nat} : decide (V.int (n : Int) = V.int (m : Int)) = decide (n = m) := decide_eq_decide.mpr ⟨fun e => Int.ofNat.inj (V.int.inj e), fun e => by rw [e]⟩
theorem sqT_put {K : PySem.W.Frag} {H : Hp} {D t : Addr} {o : HO} {xs : List V} (n : t ≠ D) (h : SqT K H t xs) : SqT K (upd H D o) t xs := by
  rcases h with (h | ⟨o', h⟩) | h
  · exact .inl (.inl (by rw [upd_ne n]; exact h))
  · exact .inl (.inr ⟨o', by rw [upd_ne n]; exact h⟩)
  · exact .inr h
theorem al_prs {α : Type} {K : PySem.W.Frag} {H : Hp} {f : α → Pr} {ms : List α} {ys : List V} (a : Al (fun m y => ∃ t, y = .ref t ∧ SqT K H t (prV (f m))) ms ys) : ∃ ks : List (Addr × Pr), ys = refs ks ∧ Prs K H ks ∧ prsOf ks = ms.map f := by
  induction a with
  | nil => exact ⟨[], rfl, Prs.nil, rfl⟩
  | @cons m y ms ys h _ ih =>
    obtain ⟨t, rfl, h⟩ := h
    obtain ⟨ks, rfl, pr, e⟩ := ih
    refine ⟨(t, f m) :: ks, rfl, fun q hq => ?_, ?_⟩
    · rcases List.mem_cons.mp hq with rfl | hq
      · exact h
      · exact pr q hq
    · show f m :: prsOf ks = _
      rw [e]
      rfl
theorem u65 {k : Nat} {A : Around} (r : L2.Room k A) : A.units + 65 < cLine := by
  have := r.un
  omega
/-! ### data of pairs -/
def prD (p : Pr) : PyData := .tuple [.int (p.1 : Int), .int (p.2 : Int)]
def prsD (ps : List Pr) : PyData := .list (ps.map prD)
theorem dp_pr {K : PySem.W.Frag} {H : Hp} {t : Addr} {p : Pr} (h : SqT K H t (prV p)) : Dp K H (.ref t) (prD p) := .tup h (.cons (.int _) (.cons (.int _) .nil))
theorem dps_pr {K : PySem.W.Frag} {H : Hp} : ∀ {ks : List (Addr × Pr)}, Prs K H ks → DpAll K H (refs ks) ((prsOf ks).map prD)
  | [], _ => .nil
  | q :: ks, h => .cons (dp_pr (h q (.head _))) (dps_pr fun z hz => h z (.tail _ hz))
theorem eqv_pr (p q : Pr) : PyData.eqv (prD p) (prD q) = decide (p = q) := by
  show (((p.1 : Int) == (q.1 : Int)) && (((p.2 : Int) == (q.2 : Int)) && true)) = _
  rw [Bool.and_true]
  by_cases e : p = q
  · subst e
    rw [decide_eq_true rfl]
    simp
  · rw [decide_eq_false e]
    refine Bool.eq_false_iff.mpr fun z => e ?_
    rw [Bool.and_eq_true, beq_iff_eq, beq_iff_eq] at z
    exact Prod.ext (Int.ofNat.inj z.1) (Int.ofNat.inj z.2)
theorem any_pr (ps : List Pr) (p : Pr) : ((ps.map prD).any fun z => PyData.eqv z (prD p)) = decide (p ∈ ps) := by
  induction ps with
  | nil => rfl
  | cons x r ih =>
    rw [List.map_cons, List.any_cons, ih, eqv_pr]
    simp only [List.mem_cons, Bool.decide_or]
    congr 1
    exact decide_eq_decide.mpr eq_comm
theorem eqv_prs : ∀ (ps qs : List Pr), PyData.eqvAll (ps.map prD) (qs.map prD) = decide (ps = qs)
  | [], [] => rfl
  | [], _ :: _ => rfl
  | _ :: _, [] => rfl
  | p :: ps, q :: qs => by
    show (PyData.eqv (prD p) (prD q) && PyData.eqvAll (ps.map prD) (qs.map prD)) = _
    rw [eqv_prs ps qs, eqv_pr, ← Bool.decide_and]
    exact decide_eq_decide.mpr (by rw [List.cons.injEq])
theorem seq_at {k n : Nat} (h : k < n) : seqIndex? (k : Int) n = some k := by
  unfold seqIndex?
  have h1 : ¬ ((k : Int) < 0) := by omega
  rw [if_neg h1]
  have h2 : (decide ((0 : Int) ≤ (k : Int)) && decide ((k : Int) < (n : Int))) = true := by
    rw [decide_eq_true (by omega : (0 : Int) ≤ (k : Int)), decide_eq_true (by omega : (k : Int) < (n : Int))]
    rfl
  simp only [h2, if_true]
  rfl
theorem erase_perm {α : Type} : ∀ {l : List α} {k : Nat} (h : k < l.length), (l[k] :: l.eraseIdx k).Perm l
  | x :: r, 0, _ => .refl _
  | x :: r, k + 1, h => by
    show (r[k]'(by simpa using h) :: x :: r.eraseIdx k).Perm (x :: r)
    exact (List.Perm.swap _ _ _).trans ((erase_perm (l := r) (k := k) (by simpa using h)).cons x)
def reprB (b : Bool) : Str := if b then "True" else "False"
theorem call_repr_bl {X : Cx} : CallR X (.builtin "repr") (fun xs H Q => ∃ b, xs = [.bl b] ∧ Q (.str (reprB b)) H) := by
  intro pins s σ H xs us Q I r h
  obtain ⟨b, rfl, q⟩ := h
  obtain ⟨u, rfl, t⟩ := vals1 r
  cases t
  exact PySem.P.repr_of_bool ⟨.str _, H, I.tok _, ⟨_, rfl⟩, q⟩
theorem small1000 {n : Nat} (h : n < 1000) : n < sizeLine := Nat.lt_trans h (by decide)
theorem len_app (a b : Str) : (a ++ b).length = a.length + b.length := by
  show (a.cps ++ b.cps).size = a.cps.size + b.cps.size
  exact Array.size_append ..
theorem small_log (n : Nat) (h : n < 10000) : ((n : Int)).natAbs.log2 < 1920 := by
  have e : ((n : Int)).natAbs = n := rfl
  rw [e]
  by_cases z : n = 0
  · subst z
    decide
  · exact Nat.lt_trans ((Nat.log2_lt z).mpr (show n < 2 ^ 14 by omega)) (by decide)
end SQ
namespace SQ
open PySem PySem.Spec PyProof.Rows L2
theorem lays_prs : ∀ ps : List Pr, PyData.canLayAll0 (ps.map prD) = true
  | [] => rfl
  | p :: r => by
    show (PyData.canLay0 (prD p) && PyData.canLayAll0 (r.map prD)) = true
    rw [lays_prs r]
    rfl
theorem deep_prs : ∀ ps : List Pr, PyData.depthAll (ps.map prD) ≤ 1
  | [] => Nat.zero_le _
  | p :: r => by
    show max (max 0 (max 0 0) + 1) (PyData.depthAll (r.map prD)) ≤ 1
    have := deep_prs r
    omega
theorem shaped_prs {ps : List Pr} : SeqAt.shaped (prsD ps) = true := by
  unfold SeqAt.shaped
  rw [show PyData.canLay0 (prsD ps) = true from lays_prs ps, decide_eq_true (show PyData.depth (prsD ps) ≤ 64 by
    show PyData.depthAll (ps.map prD) + 1 ≤ 64
    have := deep_prs ps
    omega)]
  rfl
theorem shaped_prsT {ps : List Pr} : SeqAt.shaped (.tuple (ps.map prD)) = true := by
  unfold SeqAt.shaped
  rw [show PyData.canLay0 (.tuple (ps.map prD)) = true from lays_prs ps, decide_eq_true (show PyData.depth (.tuple (ps.map prD)) ≤ 64 by
    show PyData.depthAll (ps.map prD) + 1 ≤ 64
    have := deep_prs ps
    omega)]
  rfl
/-- a list is changed: tuples stay -/
theorem sqT_set {K : PySem.W.Frag} {H : Hp} {D t : Addr} {o : HO} {xs ys : List V} (e : H D = some (.lst ys)) (h : SqT K H t xs) : SqT K (upd H D o) t xs := by
  have n : ∀ {u : HO}, H t = some u → (∀ zs, u ≠ .lst zs) → t ≠ D := fun h1 h2 z => by
    rw [z, e] at h1
    exact h2 _ (Option.some.inj h1).symm
  rcases h with (h | ⟨o', h⟩) | h
  · exact .inl (.inl (by rw [upd_ne (n h (by intro zs q; cases q))]; exact h))
  · exact .inl (.inr ⟨o', by rw [upd_ne (n h (by intro zs q; cases q))]; exact h⟩)
  · exact .inr h
theorem Prs.set {K : PySem.W.Frag} {H : Hp} {D : Addr} {o : HO} {ys : List V} {ks : List (Addr × Pr)} (g : Prs K H ks) (e : H D = some (.lst ys)) : Prs K (upd H D o) ks := fun q hq => sqT_set e (g q hq)
theorem Same.none {H H' : Hp} {l : Addr} (s : Same H H') (h : H' l = none) : H l = none := by
  cases e : H l with
  | none => rfl
  | some o =>
    rw [s _ _ e] at h
    cases h
end SQ
namespace SQ
open PySem PySem.Spec PyProof.Rows L2
def pows : List V := [.int 1, .int 2, .int 4, .int 8, .int 16, .int 32, .int 64, .int 128, .int 256, .int 512, .int 1024, .int 2048]
theorem pows_at : ∀ k : Nat, k < 12 → pows[k]? = some (V.int ((2 ^ k : Nat) : Int)) := by decide +kernel
def ofPr (q : Addr × Pr) : Addr × List Int := (q.1, [(q.2.1 : Int), (q.2.2 : Int)])
theorem ofPr_back : ∀ {L : List (Addr × List Int)} {ks : List (Addr × Pr)}, (∀ p ∈ L, p ∈ ks.map ofPr) → ∃ M : List (Addr × Pr), L = M.map ofPr ∧ ∀ q ∈ M, q ∈ ks
  | [], _, _ => ⟨[], rfl, fun q h => nomatch h⟩
  | p :: L, ks, h => by
    obtain ⟨x, hx, rfl⟩ := List.mem_map.mp (h p (.head _))
    obtain ⟨M, e, hm⟩ := ofPr_back (L := L) (ks := ks) fun q hq => h q (.tail _ hq)
    refine ⟨x :: M, by rw [e]; rfl, fun q hq => ?_⟩
    rcases List.mem_cons.mp hq with rfl | hq
    · exact hx
    · exact hm q hq
theorem ofPr_snd (q q' : Addr × Pr) (h : (ofPr q).2 = (ofPr q').2) : q.2 = q'.2 := by
  injection h with h1 h2
  injection h2 with h2 _
  exact Prod.ext (Int.ofNat.inj h1) (Int.ofNat.inj h2)
theorem ofPr_nodup {M : List (Addr × Pr)} (h : ((M.map ofPr).map (·.2)).Nodup) : (prsOf M).Nodup := by
  rw [List.map_map] at h
  rw [List.nodup_iff_pairwise_ne, List.pairwise_map] at h ⊢
  exact List.Pairwise.imp (fun n e => n (by
    show [((_ : Pr).1 : Int), _] = [((_ : Pr).1 : Int), _]
    rw [e])) h
end SQ
namespace SQ
open PySem PySem.Spec PyProof.Rows L2
theorem sz_len {m : Nat} {b : Bool} (h : 1 ≤ m ∧ m ≤ 3) : (Str.ofString (toString ((2 ^ (m * en m b) : Nat) : Int))).length ≤ 4 := by
  have three : m = 1 ∨ m = 2 ∨ m = 3 := by omega
  rcases three with rfl | rfl | rfl <;> cases b <;> decide +kernel
theorem m_len {m : Nat} (h : 1 ≤ m ∧ m ≤ 3) : (Str.ofString (toString (m : Int))).length ≤ 1 := by
  have three : m = 1 ∨ m = 2 ∨ m = 3 := by omega
  rcases three with rfl | rfl | rfl <;> decide +kernel
theorem ifC {b : Bool} {x y : Str} {σ : L2.St} {H : Hp} {Q : V → Hp → Prop} (h : Q (.str (if b = true then x else y)) H) : if b = true then tC (.str x) σ H Q else tC (.str y) σ H Q := by
  cases b
  · exact iteF h
  · exact iteT h
theorem mk_same {C x dx : Addr} {H H' : Hp} (nx : H x = none) (ndx : H dx = none) (k : ∀ c o, c ≠ x → upd (upd H dx (.own x)) x (.ins C dx []) c = some o → H' c = some o) : Same H H' := fun c o e => k c o (ne_of_none e nx) (by rw [upd_ne (ne_of_none e nx), upd_ne (ne_of_none e ndx)]; exact e)
end SQ
namespace SQ
open PySem PySem.Spec PyProof.Rows L2
theorem kit_self {K : PySem.W.Frag} {C : Addr} : PySem.W.kitOne K (.ref C) (.ref C) = some true := by
  unfold PySem.W.kitOne
  rw [if_pos (by simp)]
theorem kit_own {K : PySem.W.Frag} {C : Addr} {T : String} (h1 : PySem.W.isClsIn K C = true) (h2 : PySem.W.typeIn K (.ref C) = some (.type "type")) (h3 : PySem.W.subIn K (.type T) (.ref C) = some false) : PySem.W.kitOne K (.type T) (.ref C) = some false := by
  unfold PySem.W.kitOne
  rw [if_neg (by simp)]
  have e2 : ((PySem.W.clsIn K C).isSome && PySem.W.typeIn K (.ref C) == some (.type "type")) = true := by
    have h1' : (PySem.W.clsIn K C).isSome = true := h1
    rw [h1', h2] <;> rfl
  show (if ((PySem.W.clsIn K C).isSome && PySem.W.typeIn K (.ref C) == some (.type "type")) = true then PySem.W.subIn K (.type T) (.ref C) else none) = some false
  rw [if_pos e2]
  exact h3
end SQ

set_option Elab.async false
set_option linter.all false
namespace SQ
open PySem PySem.Spec PyProof.Rows L2
def topS (i : Nat) : Stmt := PySem.Challenge.pw_blockshanded_k20_relations_by_their_pair.main.body.getD i (.Pass ⟨0, 0, 0, 0⟩)
abbrev s_wall : Stmt := topS 0
abbrev sis_integer_in : Stmt := topS 2
abbrev sHandError : Stmt := topS 5
abbrev sInvalidMeaning : Stmt := topS 6
abbrev sInvalidOperation : Stmt := topS 7
abbrev sInvalidNumber : Stmt := topS 8
abbrev sInvalidNumber__init__ : Stmt := inClass sInvalidNumber 0
abbrev spairs_of : Stmt := topS 10
abbrev ssame_of : Stmt := topS 11
abbrev sSpace : Stmt := topS 13
abbrev sSpace__init__ : Stmt := inClass sSpace 0
abbrev sSpacemodes : Stmt := inClass sSpace 1
abbrev sSpacewatched : Stmt := inClass sSpace 2
abbrev sSpaceends : Stmt := inClass sSpace 3
abbrev sSpacesize : Stmt := inClass sSpace 4
abbrev sSpacesame : Stmt := inClass sSpace 5
abbrev sSpacepairs : Stmt := inClass sSpace 6
abbrev sSpacerelation : Stmt := inClass sSpace 7
abbrev sSpacefollowed : Stmt := inClass sSpace 8
abbrev sSpaceeither : Stmt := inClass sSpace 9
abbrev sSpaceis_within : Stmt := inClass sSpace 10
abbrev sSpaceis_table : Stmt := inClass sSpace 11
abbrev sSpaceis_monotone : Stmt := inClass sSpace 12
abbrev sSpacecomposed : Stmt := inClass sSpace 13
abbrev sSpace_is_relation : Stmt := inClass sSpace 14
abbrev sSpace_is_pair : Stmt := inClass sSpace 15
abbrev sSpace_check_relation : Stmt := inClass sSpace 16
abbrev sSpace_check_table : Stmt := inClass sSpace 17
abbrev sSpace__eq__ : Stmt := inClass sSpace 18
abbrev sSpace__str__ : Stmt := inClass sSpace 19
abbrev s_law_urn : Stmt := topS 15
abbrev s_law_take : Stmt := topS 16
abbrev s_law_one : Stmt := topS 17
abbrev s_law_some : Stmt := topS 18
abbrev s_law_pairs : Stmt := topS 19
abbrev s_law_bits : Stmt := topS 20
abbrev s_law_then : Stmt := topS 21
abbrev s_law_within : Stmt := topS 22
abbrev s_law_sizes : Stmt := topS 23
abbrev s_law_right : Stmt := topS 24
abbrev slaw : Stmt := topS 25
end SQ

set_option Elab.async false
set_option linter.all false
set_option maxRecDepth 100000
set_option maxHeartbeats 4000000
namespace SQ
open PySem PySem.Spec PyProof.Rows L2
section
variable {P : Program} {w : World} {K : PySem.W.Frag} {mg : Str → Option Value} {base : Heap}
abbrev Nis_integer_in : List Str := ["value", "least", "greatest"]
theorem scis_integer_in : FnScope Nis_integer_in ["value", "least", "greatest"] (defScope sis_integer_in) := ⟨rfl, rfl, rfl, by decide +kernel, rfl, by decide +kernel, by decide +kernel⟩
theorem ok_is_integer_in {f : Addr} {fd : FuncData} (F : Fun K "is_integer_in" "is_integer_in" sis_integer_in f fd) (T : Nm mg) : FnOk P w K mg base CX0 2 f fd ["value", "least", "greatest"] (spIntIn K) := by
  have nd := scis_integer_in.nd
  refine F.ok scis_integer_in (fun vs H Q E h => ?_) (fun cdv A outer s H vs Q E hr h => ?_)
  · obtain ⟨v, a, b, rfl, pl, q⟩ := h
    rfl
  · obtain ⟨v, a, b, rfl, pl, q⟩ := h
    skip
    refine ⟨_, (pss_one (ps_ret (pe_and (pe_callB call_isi (by rfl) T.b_isinstance (by decide +kernel) (pa_cons (pv 0) (pa_cons (pe_bltn (v := .ty "int") (by rfl) T.b_int (by decide +kernel) rfl) pa_nil))) (pe_and (pe_not (pe_callB call_isi (by rfl) T.b_isinstance (by decide +kernel) (pa_cons (pv 0) (pa_cons (pe_bltn (v := .ty "bool") (by rfl) T.b_bool (by decide +kernel) rfl) pa_nil)))) (pe_one (pe_chain op_le op_le (pv 1) (pv 0) (pv 2))))))), ?_⟩

    cases pl with
    | non =>
      refine ⟨_, rfl, _, _, _, _, false, rfl, .ty "int", .base .non, kit_ty (show kitB "NoneType" "int" = some false by decide +kernel), false, rfl, ?_⟩
      exact q
    | bl b' =>
      refine ⟨_, rfl, _, _, _, _, true, rfl, .ty "int", .base (.bl b'), kit_ty (show kitB "bool" "int" = some true by decide +kernel), true, rfl, ?_⟩
      refine ⟨_, rfl, _, _, _, _, true, rfl, .ty "bool", .base (.bl b'), kit_ty (show kitB "bool" "bool" = some true by decide +kernel), true, rfl, ?_⟩
      refine ⟨false, rfl, ?_⟩
      exact q
    | int i =>
      refine ⟨_, rfl, _, _, _, _, true, rfl, .ty "int", .base (.int i), kit_ty (show kitB "int" "int" = some true by decide +kernel), true, rfl, ?_⟩
      refine ⟨_, rfl, _, _, _, _, false, rfl, .ty "bool", .base (.int i), kit_ty (show kitB "int" "bool" = some false by decide +kernel), false, rfl, ?_⟩
      refine ⟨true, rfl, ?_⟩
      refine iteT ?_
      refine ⟨_, rfl, _, rfl, _, _, rfl, rfl, _, rfl, ite2 (fun e1 => ?_) (fun e1 => ?_)⟩
      · refine ⟨_, rfl, _, _, rfl, rfl, ?_⟩
        rw [show inB a b (.int i) = (decide (a ≤ i) && decide (i ≤ b)) from rfl, e1, Bool.true_and] at q
        exact q
      · rw [show inB a b (.int i) = (decide (a ≤ i) && decide (i ≤ b)) from rfl, Bool.not_eq_true _ |>.mp e1, Bool.false_and] at q
        exact q
    | tup e =>
      refine ⟨_, rfl, _, _, _, _, false, rfl, .ty "int", ty_tup e, kit_ty (show kitB "tuple" "int" = some false by decide +kernel), false, rfl, ?_⟩
      exact q
    | lst e =>
      refine ⟨_, rfl, _, _, _, _, false, rfl, .ty "int", .base (.lst e), kit_ty (show kitB "list" "int" = some false by decide +kernel), false, rfl, ?_⟩
      exact q
    | dct e =>
      refine ⟨_, rfl, _, _, _, _, false, rfl, .ty "int", .base (.dK e), kit_ty (show kitB "dict" "int" = some false by decide +kernel), false, rfl, ?_⟩
      exact q
end
end SQ

set_option Elab.async false
set_option linter.all false
set_option maxRecDepth 100000
set_option maxHeartbeats 4000000
namespace SQ
open PySem PySem.Spec PyProof.Rows L2
section
variable {P : Program} {w : World} {K : PySem.W.Frag} {mg : Str → Option Value} {base : Heap}
abbrev Npairs_of : List Str := ["relation", "modes", "ends", "bit"]
theorem scpairs_of : FnScope Npairs_of ["relation", "modes", "ends"] (defScope spairs_of) := ⟨rfl, rfl, rfl, by decide +kernel, rfl, by decide +kernel, by decide +kernel⟩
theorem ok_pairs_of {f : Addr} {fd : FuncData} (F : Fun K "pairs_of" "pairs_of" spairs_of f fd) (T : Nm mg) : FnOk P w K mg base CX0 1 f fd ["relation", "modes", "ends"] (spPairsOf K) := by
  have nd := scpairs_of.nd
  refine F.ok scpairs_of (fun vs H Q E h => ?_) (fun cdv A outer s H vs Q E hr h => ?_)
  · obtain ⟨r, m, e, rfl, big, e1, e4, m3, r1, q⟩ := h
    rfl
  · obtain ⟨r, m, e, rfl, big, e1, e4, m3, r1, q⟩ := h
    skip
    refine ⟨_, (pss_one (ps_ret (pe_lc (own := [("bit", 3)]) (g := gName 3) rfl nd (pi_range1 rfl T.b_range (pa_cons (pe_op op_mulN (pv 1) (pv 2)) pa_nil)) (blkOk_by (own := [("bit", 3)]) (N := Npairs_of) (sc := defScope spairs_of) (by decide +kernel)) (fun _ _ _ _ _ => (pg_name (i := 3) nd rfl (Or.inl rfl))) (fun _ _ _ _ _ => pts_one (pt_truthK (K := K) rfl (pe_op op_andNN (pe_op op_shrNN (pv 0) (pv 3)) pe_int) (by intro _; rfl))) (fun _ _ _ _ _ => (pe_callB call_divmodN (by rfl) T.b_divmod (by decide +kernel) (pa_cons (pv 3) (pa_cons (pv 2) pa_nil))))))), ?_⟩

    refine ⟨_, rfl, _, rfl, m, e, rfl, rfl, by omega, _, rfl, by omega, by omega, fun D nD => ?_⟩
    refine lcR (n := m * e) (fun i => r.testBit i) (fun i y H' => ∃ t, t ≠ D ∧ y = .ref t ∧ SqT K H' t (prV (i / e, i % e))) (Rg.same nD) (fun i y Ha Hb _ s h => ?_) (fun i y Ha o s h => ?_) (by omega) (fun i H2 Ok No hi s2 hD ok no => ?_) (fun H3 ys s3 e3 al => ?_)
    · obtain ⟨t, n, rfl, h⟩ := h
      exact ⟨t, n, rfl, Same.sqT s h⟩
    · obtain ⟨t, n, rfl, h⟩ := h
      exact ⟨t, n, rfl, sqT_put n h⟩
    · refine ⟨rfl, _, rfl, _, rfl, r, i, rfl, rfl, _, 1, rfl, rfl, r.testBit i, ?_, ?_⟩
      · rw [and_bit]
        exact (bit_ne _).symm
      · refine ite2 (fun h => ?_) (fun h => ?_)
        · refine ⟨_, rfl, _, rfl, i, e, rfl, ⟨e1, by omega⟩, fun t nt => ?_⟩
          refine ok h _ _ (same_upd nt) ⟨t, fun z => ?_, rfl, tupT upd_same⟩
          obtain ⟨o, ho⟩ := hD
          rw [z, ho] at nt
          cases nt
        · exact no (Bool.not_eq_true _ |>.mp h) _ Same.rfl
    · obtain ⟨ks, rfl, pr, ek⟩ := al_prs (f := fun i => (i / e, i % e)) (al.mono fun i y ⟨t, _, h⟩ => ⟨t, h⟩)
      refine q _ D ks s3 e3 pr ?_
      rw [ek, few_bits big r1]
      rfl
end
end SQ

set_option Elab.async false
set_option linter.all false
set_option maxRecDepth 100000
set_option maxHeartbeats 4000000
namespace SQ
open PySem PySem.Spec PyProof.Rows L2
section
variable {P : Program} {w : World} {K : PySem.W.Frag} {mg : Str → Option Value} {base : Heap}
abbrev Nsame_of : List Str := ["modes", "ends", "mode"]
theorem scsame_of : FnScope Nsame_of ["modes", "ends"] (defScope ssame_of) := ⟨rfl, rfl, rfl, by decide +kernel, rfl, by decide +kernel, by decide +kernel⟩
theorem ok_same_of {f : Addr} {fd : FuncData} (F : Fun K "same_of" "same_of" ssame_of f fd) (T : Nm mg) : FnOk P w K mg base CX0 1 f fd ["modes", "ends"] (spSame) := by
  have nd := scsame_of.nd
  refine F.ok scsame_of (fun vs H Q E h => ?_) (fun cdv A outer s H vs Q E hr h => ?_)
  · obtain ⟨m, e, rfl, hm, he, q⟩ := h
    rfl
  · obtain ⟨m, e, rfl, hm, he, q⟩ := h
    skip
    refine ⟨_, (pss_one (ps_ret (pe_callB (cr_sum rfl) (by rfl) T.b_sum (by decide +kernel) (pa_cons (pe_lc (own := [("mode", 2)]) (g := gName 2) (tt := tYes) rfl nd (pi_range1 rfl T.b_range (pa_cons (pv 0) pa_nil)) (blkOk_by (own := [("mode", 2)]) (N := Nsame_of) (sc := defScope ssame_of) (by decide +kernel)) (fun _ _ _ _ _ => (pg_name (i := 2) nd rfl (Or.inl rfl))) (fun _ _ _ _ _ => pts_nil) (fun _ _ _ _ _ => (pe_op op_shlNN pe_int (pe_op op_addN (pe_op op_mulN (pv 2) (pv 1)) (pv 2))))) pa_nil)))), ?_⟩

    refine ⟨_, rfl, _, rfl, by omega, by omega, fun D nD => ?_⟩
    refine lcR (n := m) (fun _ => true) (fun i y _ => y = .int ((2 ^ (i * e + i) : Nat) : Int)) (Rg.same nD) (fun _ _ _ _ _ _ h => h) (fun _ _ _ _ _ h => h) (by omega) (fun i H1 Ok No hi s1 _ ok _ => ?_) (fun H1 ys s1 e1 al => ?_)
    · have h3 : i * e ≤ 3 * 4 := Nat.mul_le_mul (by omega) he
      refine ⟨rfl, _, rfl, _, rfl, i, e, rfl, rfl, by omega, ?_⟩
      refine ⟨_, rfl, i * e, i, rfl, rfl, 1, i * e + i, rfl, rfl, by decide, by omega, ok rfl _ _ Same.rfl ?_⟩
      rw [Nat.one_mul]
    · have e2 := al.map
      rw [List.filter_eq_self.mpr (fun _ _ => rfl)] at e2
      refine ⟨D, (List.range m).map fun i => ((2 ^ (i * e + i) : Nat) : Int), rfl, .inl (.inl ?_), ?_⟩
      · rw [e1, e2, List.map_map]
        rfl
      · have h2 : ((List.range m).map fun i => ((2 ^ (i * e + i) : Nat) : Int)).sum = ((sameN m e : Nat) : Int) := same_sum m e
        rw [h2]
        exact q H1 s1
end
end SQ

set_option Elab.async false
set_option linter.all false
set_option maxRecDepth 100000
set_option maxHeartbeats 4000000
namespace SQ
open PySem PySem.Spec PyProof.Rows L2
section
variable {P : Program} {w : World} {K : PySem.W.Frag} {mg : Str → Option Value} {base : Heap}
abbrev NSpace__init__ : List Str := ["self", "modes", "watched"]
theorem scSpace__init__ : FnScope NSpace__init__ ["self", "modes", "watched"] (defScope sSpace__init__) := ⟨rfl, rfl, rfl, by decide +kernel, rfl, by decide +kernel, by decide +kernel⟩
theorem ok_Space__init__ {f : Addr} {fd : FuncData} (F : FunD K "__init__" "Space.__init__" (defArgs sSpace__init__) (defBody sSpace__init__) (defScope sSpace__init__) [] [("watched", .bl false)] f fd) (T : Nm mg) {C : Addr} (PC : SpC K mg C) (Cis_integer_in : Cal P w K mg base 2 "is_integer_in" ["value", "least", "greatest"] (spIntIn K)) (Csame_of : Cal P w K mg base 1 "same_of" ["modes", "ends"] spSame) : FnOk P w K mg base CX0 3 f fd ["self", "modes", "watched"] (spInit C) := by
  have nd := scSpace__init__.nd
  refine F.ok scSpace__init__ (fun vs H Q E h => ?_) (fun cdv A outer s H vs Q E hr h => ?_)
  · obtain ⟨p, dx, m, b, rfl, hp, m1, m3, q⟩ := h
    rfl
  · obtain ⟨p, dx, m, b, rfl, hp, m1, m3, q⟩ := h
    obtain ⟨t3, g3⟩ := T.g_MAX_MODES
    refine ⟨_, (pss_cons (ps_if (pt_not (pt_val (pe_own Cis_integer_in (hr.mono (by decide)) (by rfl) (pa_cons (pv 1) (pa_cons pe_int (pa_cons (pe_glob (v := .int 3) (by rfl) g3 ⟨_, rfl⟩) pa_nil))))))
  (pss_one ps_never)
  pss_nil)
  (pss_cons (ps_if (pt_not (pt_val (pe_callB call_isi (by rfl) T.b_isinstance (by decide +kernel) (pa_cons (pv 2) (pa_cons (pe_bltn (v := .ty "bool") (by rfl) T.b_bool (by decide +kernel) rfl) pa_nil)))))
  (pss_one ps_never)
  pss_nil)
  (pss_cons (ps_fld (pv 0) (pv 1) rfl)
  (pss_cons (ps_fld (pv 0) (pv 2) rfl)
  (pss_cons (ps_fld (pv 0) (pe_ifExp (pt_val (pv 2)) (pe_op op_addN (pv 1) pe_int) (pv 1)) rfl)
  (pss_cons (ps_fld (pv 0) (pe_op op_shlNN pe_int (pe_op op_mulN (pv 1) (pe_fld (pv 0) rfl))) rfl)
  (pss_one (ps_fld (pv 0) (pe_own Csame_of (hr.mono (by decide)) (by rfl) (pa_cons (pv 1) (pa_cons (pe_fld (pv 0) rfl) pa_nil))) rfl)))))))), ?_⟩

    have hb : inB 1 3 (.int (m : Int)) = true := by
      show (decide ((1 : Int) ≤ (m : Int)) && decide ((m : Int) ≤ 3)) = true
      rw [decide_eq_true (by omega), decide_eq_true (by omega)]
      rfl
    refine ⟨_, rfl, .int (m : Int), 1, 3, rfl, .int _, ?_⟩
    rw [hb]
    refine ⟨_, rfl, iteF ?_⟩
    refine ⟨_, rfl, _, _, _, _, true, rfl, .ty "bool", .base (.bl b), kit_ty (show kitB "bool" "bool" = some true by decide +kernel), true, rfl, iteF ?_⟩
    have fin : ∀ {H0 H' H'' : Hp} {fs : List (Str × V)} {y : V} {g : Str}, (∀ c o, c ≠ p → H0 c = some o → H' c = some o) → upd H' p (.ins C dx (putF g y fs)) = H'' → (∀ c o, c ≠ p → H0 c = some o → H'' c = some o) ∧ H'' p = some (.ins C dx (putF g y fs)) := fun k h => by
      subst h
      exact ⟨fun c o n e => by rw [upd_ne n]; exact k c o n e, upd_same⟩
    have k0 : ∀ c o, c ≠ p → H c = some o → H c = some o := fun _ _ _ e => e
    refine ⟨_, rfl, _, rfl, p, C, dx, [], rfl, hp, PC.cl, PC.a1, by show 0 < 1000; decide, ?_⟩
    generalize hh : upd H p _ = H1
    obtain ⟨k1, e1⟩ := fin k0 hh
    clear hh k0
    refine ⟨_, rfl, _, rfl, p, C, dx, _, rfl, e1, PC.cl, PC.a2, by show 1 < 1000; decide, ?_⟩
    rw [show putF "_modes" (V.int (m : Int)) [] = [(("_modes" : Str), V.int (m : Int))] from rfl, pf2]
    obtain ⟨k2, e2⟩ := fin (g := "_watched") (y := .bl b) (fs := [("_modes", V.int (m : Int))]) k1 rfl
    rw [pf2] at k2 e2
    generalize upd H1 p _ = H2 at k2 e2 ⊢
    clear k1 e1
    refine ⟨_, rfl, _, rfl, ?_⟩
    have goal : ∀ z : Nat, z = en m b → ∀ G : Prop, (∀ H3, (∀ c o, c ≠ p → H c = some o → H3 c = some o) → H3 p = some (.ins C dx [("_modes", V.int (m : Int)), ("_watched", V.bl b), ("_ends", V.int (z : Int))]) → H3 = upd H2 p (.ins C dx [("_modes", V.int (m : Int)), ("_watched", V.bl b), ("_ends", V.int (z : Int))]) → G) → G := fun z _ G h => by
      obtain ⟨k3, e3⟩ := fin (g := "_ends") (y := V.int (z : Int)) (fs := [("_modes", V.int (m : Int)), ("_watched", V.bl b)]) k2 rfl
      rw [pf3] at k3 e3
      exact h _ k3 e3 rfl
    have big := men_le (b := b) ⟨m1, m3⟩
    have enl := en_le (b := b) ⟨m1, m3⟩
    cases b
    case' true => refine iteT ⟨_, rfl, m, 1, rfl, rfl, ?_⟩
    case' false => refine iteF ⟨_, rfl, ?_⟩
    all_goals
      refine ⟨_, rfl, p, C, dx, _, rfl, e2, PC.cl, PC.a3, by show 2 < 1000; decide, ?_⟩
      rw [pf3]
      first
        | (refine goal (m + 1) rfl _ fun H3 k3 e3 eq => ?_
           rw [← eq])
        | (refine goal m rfl _ fun H3 k3 e3 eq => ?_
           rw [← eq])
      clear eq k2 e2 goal
      refine ⟨_, rfl, _, rfl, p, C, dx, _, _, rfl, e3, PC.cl, PC.a3, lkm1, m, _, rfl, rfl, by omega, 1, _, rfl, rfl, by decide, Nat.le_trans big (by decide), ?_⟩
      refine ⟨_, rfl, p, C, dx, _, rfl, e3, PC.cl, PC.a4, by show 3 < 1000; decide, ?_⟩
      rw [pf4, Nat.one_mul]
      generalize hh : upd H3 p _ = H4
      have e4 := (congrFun hh p).symm.trans upd_same
      have k4 : ∀ c o, c ≠ p → H c = some o → H4 c = some o := fun c o n e => by
        rw [← hh, upd_ne n]
        exact k3 c o n e
      clear hh
      refine ⟨_, rfl, _, rfl, p, C, dx, _, _, rfl, e4, PC.cl, PC.a3, lkm2, m, _, rfl, m3, enl.2, fun H5 s5 => ?_⟩
      have e5 := s5 _ _ e4
      refine ⟨_, rfl, p, C, dx, _, rfl, e5, PC.cl, PC.a5, by show 4 < 1000; decide, ?_⟩
      rw [pf5]
      generalize hh : upd H5 p _ = H6
      have e6 := (congrFun hh p).symm.trans upd_same
      refine q H6 (fun c o n e => ?_) e6
      rw [← hh, upd_ne n]
      exact s5 _ _ (k4 c o n e)
end
end SQ

set_option Elab.async false
set_option linter.all false
set_option maxRecDepth 100000
set_option maxHeartbeats 4000000
namespace SQ
open PySem PySem.Spec PyProof.Rows L2
theorem init_binds {K : PySem.W.Frag} {f : Addr} {fd : FuncData} (F : FunD K "__init__" "Space.__init__" (defArgs sSpace__init__) (defBody sSpace__init__) (defScope sSpace__init__) [] [("watched", .bl false)] f fd) :
    (∃ ds, Vals [V.bl false] ds ∧ Binds K fd ["self", "modes", "watched"] ds) ∧ KBn K fd ["self", "modes", "watched"] 2 ["watched"] (fun us ws => us ++ ws) (fun vs zs => vs ++ zs) := by
  refine ⟨?_, ?_⟩
  · exact F.binds0 (ps := ["self", "modes", "watched"]) 2 (List.cons_ne_nil _ _) rfl fun D doc pm an cdv ct us ks h1 h2 => match us, h1, ks, h2 with
      | [_, _], _, [_], _ => ⟨_, _, _, _, _, _, rfl, rfl, rfl⟩
  · obtain ⟨oc, od, dV, kV, doc, pm, an, cdv, ct, osl, rfl, lk, hcd, hD, hK⟩ := F.ex
    rcases hD with ⟨_, rfl⟩ | ⟨e, _⟩
    · exact ⟨fun s us ws X l1 l2 => match us, l1, ws, l2 with
        | [_, _], _, [_], _ => .of_eq rfl, fun r1 r2 => r1.append r2⟩
    · exact absurd rfl e
end SQ

set_option Elab.async false
set_option linter.all false
set_option maxRecDepth 100000
set_option maxHeartbeats 4000000
namespace SQ
open PySem PySem.Spec PyProof.Rows L2
section
variable {P : Program} {w : World} {K : PySem.W.Frag} {mg : Str → Option Value} {base : Heap}
abbrev NSpacemodes : List Str := ["self"]
theorem scSpacemodes : FnScope NSpacemodes ["self"] (defScope sSpacemodes) := ⟨rfl, rfl, rfl, by decide +kernel, rfl, by decide +kernel, by decide +kernel⟩
theorem ok_Spacemodes {f : Addr} {fd : FuncData} (F : Fun K "modes" "Space.modes" sSpacemodes f fd) (T : Nm mg) {C : Addr} (PC : SpC K mg C) : FnOk P w K mg base CX0 1 f fd ["self"] (spGet C "_modes") := by
  have nd := scSpacemodes.nd
  refine F.ok scSpacemodes (fun vs H Q E h => ?_) (fun cdv A outer s H vs Q E hr h => ?_)
  · obtain ⟨a, dx, fs, v, rfl, ha, lk, q⟩ := h
    rfl
  · obtain ⟨a, dx, fs, v, rfl, ha, lk, q⟩ := h
    skip
    refine ⟨_, (pss_one (ps_ret (pe_fld (pv 0) rfl))), ?_⟩

    exact ⟨_, rfl, a, C, dx, fs, v, rfl, ha, PC.cl, PC.a1, lk, q⟩
end
end SQ

set_option Elab.async false
set_option linter.all false
set_option maxRecDepth 100000
set_option maxHeartbeats 4000000
namespace SQ
open PySem PySem.Spec PyProof.Rows L2
section
variable {P : Program} {w : World} {K : PySem.W.Frag} {mg : Str → Option Value} {base : Heap}
abbrev NSpacewatched : List Str := ["self"]
theorem scSpacewatched : FnScope NSpacewatched ["self"] (defScope sSpacewatched) := ⟨rfl, rfl, rfl, by decide +kernel, rfl, by decide +kernel, by decide +kernel⟩
theorem ok_Spacewatched {f : Addr} {fd : FuncData} (F : Fun K "watched" "Space.watched" sSpacewatched f fd) (T : Nm mg) {C : Addr} (PC : SpC K mg C) : FnOk P w K mg base CX0 1 f fd ["self"] (spGet C "_watched") := by
  have nd := scSpacewatched.nd
  refine F.ok scSpacewatched (fun vs H Q E h => ?_) (fun cdv A outer s H vs Q E hr h => ?_)
  · obtain ⟨a, dx, fs, v, rfl, ha, lk, q⟩ := h
    rfl
  · obtain ⟨a, dx, fs, v, rfl, ha, lk, q⟩ := h
    skip
    refine ⟨_, (pss_one (ps_ret (pe_fld (pv 0) rfl))), ?_⟩

    exact ⟨_, rfl, a, C, dx, fs, v, rfl, ha, PC.cl, PC.a2, lk, q⟩
end
end SQ

set_option Elab.async false
set_option linter.all false
set_option maxRecDepth 100000
set_option maxHeartbeats 4000000
namespace SQ
open PySem PySem.Spec PyProof.Rows L2
section
variable {P : Program} {w : World} {K : PySem.W.Frag} {mg : Str → Option Value} {base : Heap}
abbrev NSpaceends : List Str := ["self"]
theorem scSpaceends : FnScope NSpaceends ["self"] (defScope sSpaceends) := ⟨rfl, rfl, rfl, by decide +kernel, rfl, by decide +kernel, by decide +kernel⟩
theorem ok_Spaceends {f : Addr} {fd : FuncData} (F : Fun K "ends" "Space.ends" sSpaceends f fd) (T : Nm mg) {C : Addr} (PC : SpC K mg C) : FnOk P w K mg base CX0 1 f fd ["self"] (spGet C "_ends") := by
  have nd := scSpaceends.nd
  refine F.ok scSpaceends (fun vs H Q E h => ?_) (fun cdv A outer s H vs Q E hr h => ?_)
  · obtain ⟨a, dx, fs, v, rfl, ha, lk, q⟩ := h
    rfl
  · obtain ⟨a, dx, fs, v, rfl, ha, lk, q⟩ := h
    skip
    refine ⟨_, (pss_one (ps_ret (pe_fld (pv 0) rfl))), ?_⟩

    exact ⟨_, rfl, a, C, dx, fs, v, rfl, ha, PC.cl, PC.a3, lk, q⟩
end
end SQ

set_option Elab.async false
set_option linter.all false
set_option maxRecDepth 100000
set_option maxHeartbeats 4000000
namespace SQ
open PySem PySem.Spec PyProof.Rows L2
section
variable {P : Program} {w : World} {K : PySem.W.Frag} {mg : Str → Option Value} {base : Heap}
abbrev NSpacesize : List Str := ["self"]
theorem scSpacesize : FnScope NSpacesize ["self"] (defScope sSpacesize) := ⟨rfl, rfl, rfl, by decide +kernel, rfl, by decide +kernel, by decide +kernel⟩
theorem ok_Spacesize {f : Addr} {fd : FuncData} (F : Fun K "size" "Space.size" sSpacesize f fd) (T : Nm mg) {C : Addr} (PC : SpC K mg C) : FnOk P w K mg base CX0 1 f fd ["self"] (spGet C "_size") := by
  have nd := scSpacesize.nd
  refine F.ok scSpacesize (fun vs H Q E h => ?_) (fun cdv A outer s H vs Q E hr h => ?_)
  · obtain ⟨a, dx, fs, v, rfl, ha, lk, q⟩ := h
    rfl
  · obtain ⟨a, dx, fs, v, rfl, ha, lk, q⟩ := h
    skip
    refine ⟨_, (pss_one (ps_ret (pe_fld (pv 0) rfl))), ?_⟩

    exact ⟨_, rfl, a, C, dx, fs, v, rfl, ha, PC.cl, PC.a4, lk, q⟩
end
end SQ

set_option Elab.async false
set_option linter.all false
set_option maxRecDepth 100000
set_option maxHeartbeats 4000000
namespace SQ
open PySem PySem.Spec PyProof.Rows L2
section
variable {P : Program} {w : World} {K : PySem.W.Frag} {mg : Str → Option Value} {base : Heap}
abbrev NSpacesame : List Str := ["self"]
theorem scSpacesame : FnScope NSpacesame ["self"] (defScope sSpacesame) := ⟨rfl, rfl, rfl, by decide +kernel, rfl, by decide +kernel, by decide +kernel⟩
theorem ok_Spacesame {f : Addr} {fd : FuncData} (F : Fun K "same" "Space.same" sSpacesame f fd) (T : Nm mg) {C : Addr} (PC : SpC K mg C) : FnOk P w K mg base CX0 1 f fd ["self"] (spGet C "_same") := by
  have nd := scSpacesame.nd
  refine F.ok scSpacesame (fun vs H Q E h => ?_) (fun cdv A outer s H vs Q E hr h => ?_)
  · obtain ⟨a, dx, fs, v, rfl, ha, lk, q⟩ := h
    rfl
  · obtain ⟨a, dx, fs, v, rfl, ha, lk, q⟩ := h
    skip
    refine ⟨_, (pss_one (ps_ret (pe_fld (pv 0) rfl))), ?_⟩

    exact ⟨_, rfl, a, C, dx, fs, v, rfl, ha, PC.cl, PC.a5, lk, q⟩
end
end SQ

set_option Elab.async false
set_option linter.all false
set_option maxRecDepth 100000
set_option maxHeartbeats 4000000
namespace SQ
open PySem PySem.Spec PyProof.Rows L2
section
variable {P : Program} {w : World} {K : PySem.W.Frag} {mg : Str → Option Value} {base : Heap}
abbrev NSpace_is_relation : List Str := ["self", "value"]
theorem scSpace_is_relation : FnScope NSpace_is_relation ["self", "value"] (defScope sSpace_is_relation) := ⟨rfl, rfl, rfl, by decide +kernel, rfl, by decide +kernel, by decide +kernel⟩
theorem ok_Space_is_relation {f : Addr} {fd : FuncData} (F : Fun K "_is_relation" "Space._is_relation" sSpace_is_relation f fd) (T : Nm mg) {C : Addr} (PC : SpC K mg C) (Cis_integer_in : Cal P w K mg base 2 "is_integer_in" ["value", "least", "greatest"] (spIntIn K)) : FnOk P w K mg base CX0 3 f fd ["self", "value"] (spIsRel C K) := by
  have nd := scSpace_is_relation.nd
  refine F.ok scSpace_is_relation (fun vs H Q E h => ?_) (fun cdv A outer s H vs Q E hr h => ?_)
  · obtain ⟨p, m, b, v, rfl, sp, pl, q⟩ := h
    rfl
  · obtain ⟨p, m, b, v, rfl, sp, pl, q⟩ := h
    skip
    refine ⟨_, (pss_one (ps_ret (pe_own Cis_integer_in (hr.mono (by decide)) (by rfl) (pa_cons (pv 1) (pa_cons pe_int (pa_cons (pe_op op_sub (pe_fld (pv 0) rfl) pe_int) pa_nil)))))), ?_⟩

    obtain ⟨mm, dx, e⟩ := sp
    exact ⟨_, rfl, _, rfl, p, C, dx, _, _, rfl, e, PC.cl, PC.a4, lk4, _, _, rfl, rfl, v, 0, _, rfl, pl, q⟩
end
end SQ

set_option Elab.async false
set_option linter.all false
set_option maxRecDepth 100000
set_option maxHeartbeats 4000000
namespace SQ
open PySem PySem.Spec PyProof.Rows L2
section
variable {P : Program} {w : World} {K : PySem.W.Frag} {mg : Str → Option Value} {base : Heap}
abbrev NSpace_check_relation : List Str := ["self", "value"]
theorem scSpace_check_relation : FnScope NSpace_check_relation ["self", "value"] (defScope sSpace_check_relation) := ⟨rfl, rfl, rfl, by decide +kernel, rfl, by decide +kernel, by decide +kernel⟩
theorem ok_Space_check_relation {f : Addr} {fd : FuncData} (F : Fun K "_check_relation" "Space._check_relation" sSpace_check_relation f fd) (T : Nm mg) {C : Addr} (PC : SpC K mg C) (Mrel : MCal P w K mg base C 3 "_is_relation" ["self", "value"] (spIsRel C K)) : FnOk P w K mg base CX0 4 f fd ["self", "value"] (spChkRel C) := by
  have nd := scSpace_check_relation.nd
  refine F.ok scSpace_check_relation (fun vs H Q E h => ?_) (fun cdv A outer s H vs Q E hr h => ?_)
  · obtain ⟨p, m, b, r, rfl, sp, r1, q⟩ := h
    rfl
  · obtain ⟨p, m, b, r, rfl, sp, r1, q⟩ := h
    skip
    refine ⟨_, (pss_one (ps_if (pt_not (pt_val (pe_ownM Mrel PC.cl (hr.mono (by decide)) (pv 0) (pa_cons (pv 1) pa_nil))))
  (pss_one ps_never)
  pss_nil)), ?_⟩

    obtain ⟨mm, dx, e⟩ := sp
    have hb : inB 0 ((2 ^ (m * en m b) : Nat) - 1) (.int (r : Int)) = true := by
      show (decide ((0 : Int) ≤ (r : Int)) && decide ((r : Int) ≤ _)) = true
      rw [decide_eq_true (by omega), decide_eq_true (by omega)]
      rfl
    refine ⟨_, rfl, p, dx, _, rfl, e, noF, _, rfl, p, m, b, .int (r : Int), rfl, ⟨mm, dx, e⟩, .int _, ?_⟩
    rw [hb]
    exact ⟨_, rfl, iteF q⟩
end
end SQ

set_option Elab.async false
set_option linter.all false
set_option maxRecDepth 100000
set_option maxHeartbeats 4000000
namespace SQ
open PySem PySem.Spec PyProof.Rows L2
section
variable {P : Program} {w : World} {K : PySem.W.Frag} {mg : Str → Option Value} {base : Heap}
abbrev NSpace_is_pair : List Str := ["self", "value"]
theorem scSpace_is_pair : FnScope NSpace_is_pair ["self", "value"] (defScope sSpace_is_pair) := ⟨rfl, rfl, rfl, by decide +kernel, rfl, by decide +kernel, by decide +kernel⟩
theorem ok_Space_is_pair {f : Addr} {fd : FuncData} (F : Fun K "_is_pair" "Space._is_pair" sSpace_is_pair f fd) (T : Nm mg) {C : Addr} (PC : SpC K mg C) (Cis_integer_in : Cal P w K mg base 2 "is_integer_in" ["value", "least", "greatest"] (spIntIn K)) : FnOk P w K mg base CX0 3 f fd ["self", "value"] (spIsPair C K) := by
  have nd := scSpace_is_pair.nd
  refine F.ok scSpace_is_pair (fun vs H Q E h => ?_) (fun cdv A outer s H vs Q E hr h => ?_)
  · obtain ⟨p, t, m, b, x, rfl, sp, sq, x1, x2, q⟩ := h
    rfl
  · obtain ⟨p, t, m, b, x, rfl, sp, sq, x1, x2, q⟩ := h
    skip
    refine ⟨_, (pss_cons (ps_if (PW.pt (pw_or (pt_not (pt_val (pe_callB call_isi (by rfl) T.b_isinstance (by decide +kernel) (pa_cons (pv 1) (pa_cons (pe_bltn (v := .ty "tuple") (by rfl) T.b_tuple (by decide +kernel) rfl) pa_nil))))) (pw_or1 (pt_cmpR op_ne (pe_callB call_len (by rfl) T.b_len PySem.boot_len (pa_cons (pv 1) pa_nil)) pe_int (nomark _)))))
  (pss_one (ps_ret pe_bl))
  pss_nil)
  (pss_one (ps_ret (pe_and (pe_own Cis_integer_in (hr.mono (by decide)) (by rfl) (pa_cons (pe_ix ix_tup (pv 1) pe_int (fun _ _ => rfl)) (pa_cons pe_int (pa_cons (pe_op op_sub (pe_fld (pv 0) rfl) pe_int) pa_nil)))) (pe_one (pe_own Cis_integer_in (hr.mono (by decide)) (by rfl) (pa_cons (pe_ix ix_tup (pv 1) pe_int (fun _ _ => rfl)) (pa_cons pe_int (pa_cons (pe_op op_sub (pe_fld (pv 0) rfl) pe_int) pa_nil))))))))), ?_⟩

    obtain ⟨mm, dx, e⟩ := sp
    have i1 : inB 0 ((m : Int) - 1) (.int (x.1 : Int)) = true := by
      show (decide ((0 : Int) ≤ (x.1 : Int)) && decide ((x.1 : Int) ≤ _)) = true
      rw [decide_eq_true (by omega), decide_eq_true (by omega)]
      rfl
    have i2 : inB 0 ((en m b : Int) - 1) (.int (x.2 : Int)) = true := by
      show (decide ((0 : Int) ≤ (x.2 : Int)) && decide ((x.2 : Int) ≤ _)) = true
      rw [decide_eq_true (by omega), decide_eq_true (by omega)]
      rfl
    refine ⟨_, rfl, _, _, _, _, true, rfl, .ty "tuple", ty_tup sq, kit_ty (by decide +kernel), true, rfl, ?_⟩
    refine iteF ?_
    refine ⟨_, rfl, _, _, rfl, .inr ⟨_, sq, rfl⟩, rfl, _, rfl, iteF ?_⟩
    refine ⟨_, rfl, t, _, 0, _, rfl, rfl, sq, at0, _, rfl, p, C, dx, _, _, rfl, e, PC.cl, PC.a1, lk1, _, _, rfl, rfl, .int (x.1 : Int), 0, _, rfl, .int _, ?_⟩
    rw [i1]
    refine ⟨_, rfl, iteT ?_⟩
    refine ⟨_, rfl, t, _, 1, _, rfl, rfl, sq, at1, _, rfl, p, C, dx, _, _, rfl, e, PC.cl, PC.a3, lk3, _, _, rfl, rfl, .int (x.2 : Int), 0, _, rfl, .int _, ?_⟩
    rw [i2]
    exact q
end
end SQ

set_option Elab.async false
set_option linter.all false
set_option maxRecDepth 100000
set_option maxHeartbeats 4000000
namespace SQ
open PySem PySem.Spec PyProof.Rows L2
section
variable {P : Program} {w : World} {K : PySem.W.Frag} {mg : Str → Option Value} {base : Heap}
abbrev NSpacepairs : List Str := ["self", "relation"]
theorem scSpacepairs : FnScope NSpacepairs ["self", "relation"] (defScope sSpacepairs) := ⟨rfl, rfl, rfl, by decide +kernel, rfl, by decide +kernel, by decide +kernel⟩
theorem ok_Spacepairs {f : Addr} {fd : FuncData} (F : Fun K "pairs" "Space.pairs" sSpacepairs f fd) (T : Nm mg) {C : Addr} (PC : SpC K mg C) (Mchk : MCal P w K mg base C 4 "_check_relation" ["self", "value"] (spChkRel C)) (Cpairs_of : Cal P w K mg base 1 "pairs_of" ["relation", "modes", "ends"] (spPairsOf K)) : FnOk P w K mg base CX0 5 f fd ["self", "relation"] (spPairsP C K) := by
  have nd := scSpacepairs.nd
  refine F.ok scSpacepairs (fun vs H Q E h => ?_) (fun cdv A outer s H vs Q E hr h => ?_)
  · obtain ⟨p, m, b, r, rfl, sp, r1, q⟩ := h
    rfl
  · obtain ⟨p, m, b, r, rfl, sp, r1, q⟩ := h
    skip
    refine ⟨_, (pss_cons (ps_expr (pe_ownM Mchk PC.cl (hr.mono (by decide)) (pv 0) (pa_cons (pv 1) pa_nil)))
  (pss_one (ps_ret (pe_callTy call_tuple_of (by rfl) T.b_tuple (by decide +kernel) (pa_cons (pe_own Cpairs_of (hr.mono (by decide)) (by rfl) (pa_cons (pv 1) (pa_cons (pe_fld (pv 0) rfl) (pa_cons (pe_fld (pv 0) rfl) pa_nil)))) pa_nil))))), ?_⟩

    obtain ⟨mm, dx, e⟩ := sp
    have big := men_le (b := b) mm
    have enl := en_le (b := b) mm
    refine ⟨_, rfl, p, dx, _, rfl, e, noF, _, rfl, p, m, b, r, rfl, ⟨mm, dx, e⟩, r1, ?_⟩
    refine ⟨_, rfl, _, rfl, p, C, dx, _, _, rfl, e, PC.cl, PC.a1, lk1, _, rfl, p, C, dx, _, _, rfl, e, PC.cl, PC.a3, lk3, r, m, en m b, rfl, big, enl.1, enl.2, mm.2, r1, fun H1 D ks s1 e1 pr ek => ?_⟩
    refine ⟨D, refs ks, rfl, .inl ⟨.inl (.inl e1), fun l nl => ?_⟩⟩
    exact q _ l ks (s1.trans (same_upd nl)) (tupT upd_same) (Prs.same pr (same_upd nl)) ek
end
end SQ

set_option Elab.async false
set_option linter.all false
set_option maxRecDepth 100000
set_option maxHeartbeats 4000000
namespace SQ
open PySem PySem.Spec PyProof.Rows L2
section
variable {P : Program} {w : World} {K : PySem.W.Frag} {mg : Str → Option Value} {base : Heap}
abbrev NSpacerelation : List Str := ["self", "pairs", "pair", "mode", "end"]
theorem scSpacerelation : FnScope NSpacerelation ["self", "pairs"] (defScope sSpacerelation) := ⟨rfl, rfl, rfl, by decide +kernel, rfl, by decide +kernel, by decide +kernel⟩
theorem ok_Spacerelation {f : Addr} {fd : FuncData} (F : Fun K "relation" "Space.relation" sSpacerelation f fd) (T : Nm mg) {C : Addr} (PC : SpC K mg C) (Mpair : MCal P w K mg base C 3 "_is_pair" ["self", "value"] (spIsPair C K)) : FnOk P w K mg base CX0 4 f fd ["self", "pairs"] (spRelation C K) := by
  have nd := scSpacerelation.nd
  refine F.ok scSpacerelation (fun vs H Q E h => ?_) (fun cdv A outer s H vs Q E hr h => ?_)
  · obtain ⟨p, l, m, b, ks, rfl, sp, sq, pr, nd', few, sm, q⟩ := h
    rfl
  · obtain ⟨p, l, m, b, ks, rfl, sp, sq, pr, nd', few, sm, q⟩ := h
    skip
    refine ⟨_, (pss_cons (ps_if (PW.pt (pw_or (pt_not (pt_val (pe_callB call_isi (by rfl) T.b_isinstance (by decide +kernel) (pa_cons (pv 1) (pa_cons (pe_bltn (v := .ty "tuple") (by rfl) T.b_tuple (by decide +kernel) rfl) pa_nil))))) (pw_or1 (pt_not (pt_val (pe_callB (cr_all rfl) (by rfl) T.b_all (by decide +kernel) (pa_cons (pe_lc (own := [("pair", 2)]) (g := gName 2) (tt := tYes) rfl nd (pi_tup (pv 1)) (blkOk_by (own := [("pair", 2)]) (N := NSpacerelation) (sc := defScope sSpacerelation) (by decide +kernel)) (fun _ _ _ _ _ => (pg_name (i := 2) nd rfl (Or.inl rfl))) (fun _ _ _ _ _ => pts_nil) (fun _ _ _ _ _ => (pe_ownM Mpair PC.cl (hr.mono (by decide)) (pv 0) (pa_cons (pv 2) pa_nil)))) pa_nil)))))))
  (pss_one ps_never)
  pss_nil)
  (pss_cons (ps_if (pt_cmpR op_ne (pe_lenSetT rfl hr.units (by rfl) T.b_len (by rfl) T.b_set (pv 1)) (pe_callB call_len (by rfl) T.b_len PySem.boot_len (pa_cons (pv 1) pa_nil)) (nomark _))
  (pss_one ps_never)
  pss_nil)
  (pss_one (ps_ret (pe_callB (cr_sum rfl) (by rfl) T.b_sum (by decide +kernel) (pa_cons (pe_lc (own := [("mode", 3), ("end", 4)]) (g := gTup K 2 (gCons (gName 3) (gCons (gName 4) gNil))) (tt := tYes) rfl nd (pi_tup (pv 1)) (blkOk_by (own := [("mode", 3), ("end", 4)]) (N := NSpacerelation) (sc := defScope sSpacerelation) (by decide +kernel)) (fun _ _ _ _ _ => (pg_tup rfl (pgs_cons (pg_name (i := 3) nd rfl (Or.inl rfl)) (pgs_cons (pg_name (i := 4) nd rfl (Or.inl rfl)) pgs_nil)))) (fun _ _ _ _ _ => pts_nil) (fun _ _ _ _ _ => (pe_op op_shlNN pe_int (pe_op op_addN (pe_op op_mulN (pv 3) (pe_fldK (K := K) rfl (pv 0) rfl)) (pv 4))))) pa_nil)))))), ?_⟩

    obtain ⟨mm, dx, e⟩ := sp
    have big := men_le (b := b) mm
    have enl := en_le (b := b) mm
    have lk : (refs ks).length = ks.length := List.length_map ..
    refine ⟨_, rfl, _, _, _, _, true, rfl, .ty "tuple", ty_tup sq, kit_ty (by decide +kernel), true, rfl, ?_⟩
    refine iteF ?_
    refine ⟨_, rfl, l, rfl, ⟨_, sq⟩, fun D nD => ?_⟩
    refine lcT (xs := refs ks) ks (fun q => .ref q.1) (fun _ => true) (fun _ y _ => y = .bl true) rfl (Rg.same nD) (fun H' s => Same.sqT s sq) (fun _ _ _ _ _ _ h => h) (fun _ _ _ _ _ h => h) (by omega) (fun x H1 Ok No hx s1 _ ok _ => ?_) (fun H1 ys s1 e1 al => ?_)
    · obtain ⟨x1, x2⟩ := sm x.2 (List.mem_map_of_mem hx)
      exact ⟨rfl, _, rfl, p, dx, _, rfl, s1 _ _ e, noF, _, rfl, p, x.1, m, b, x.2, rfl, ⟨mm, dx, s1 _ _ e⟩, Same.sqT s1 (pr x hx), x1, x2, ok rfl _ _ Same.rfl rfl⟩
    · have e2 := (al.mono (Ψ := fun _ y => y = V.bl true) fun _ _ h => h).map
      rw [List.filter_eq_self.mpr (fun _ _ => rfl)] at e2
      refine ⟨D, ks.map fun _ => true, rfl, .inl (.inl ?_), ?_⟩
      · rw [e1, e2, List.map_map]
        rfl
      · have z : (ks.map fun _ => true).all id = true := by
          rw [List.all_map]
          exact List.all_eq_true.mpr fun _ _ => rfl
        rw [z]
        refine ⟨_, rfl, iteF ?_⟩
        have pr1 := Prs.same pr s1
        refine ⟨_, rfl, l, ks.map fun q => (q.1, [(q.2.1 : Int), (q.2.2 : Int)]), rfl, ?_, fun q hq => ?_, by rw [List.length_map]; exact few, ?_, ?_⟩
        · rw [List.map_map]
          exact Same.sqT s1 sq
        · obtain ⟨x, hx, rfl⟩ := List.mem_map.mp hq
          exact pr1 x hx
        · rw [List.map_map]
          have e4 : (ks.map ((fun z : Addr × List Int => z.2) ∘ fun q => (q.1, [(q.2.1 : Int), (q.2.2 : Int)]))) = (prsOf ks).map fun x : Pr => [(x.1 : Int), (x.2 : Int)] := by
            rw [List.map_map]
            rfl
          rw [e4]
          exact nodup_map (fun a b h => by
            injection h with h1 h2
            injection h2 with h2 _
            exact Prod.ext (Int.ofNat.inj h1) (Int.ofNat.inj h2)) nd'
        · refine ⟨_, rfl, _, _, rfl, .inr ⟨_, Same.sqT s1 sq, rfl⟩, rfl, _, rfl, ?_⟩
          rw [List.length_map, List.length_map]
          refine ite2 (fun z => ?_) (fun _ => ?_)
          · simp at z
          · refine ⟨_, rfl, l, rfl, ⟨_, Same.sqT s1 sq⟩, fun D2 nD2 => ?_⟩
            have s1e := s1 _ _ e
            refine lcT (xs := refs ks) ks (fun q => .ref q.1) (fun _ => true) (fun q y _ => y = .int ((2 ^ cd (en m b) q.2 : Nat) : Int)) rfl (Rg.same nD2) (fun H' s => Same.sqT (s1.trans s) sq) (fun _ _ _ _ _ _ h => h) (fun _ _ _ _ _ h => h) (by omega) (fun x H3 Ok No hx s3 _ ok _ => ?_) (fun H3 ys3 s3 e3 al3 => ?_)
            · obtain ⟨x1, x2⟩ := sm x.2 (List.mem_map_of_mem hx)
              have h3 : x.2.1 * en m b ≤ 3 * 4 := Nat.mul_le_mul (by omega) enl.2
              refine ⟨x.1, _, rfl, Same.sqT s3 (pr1 x hx), rfl, _, _, rfl, _, _, rfl, rfl, ?_⟩
              refine ⟨rfl, _, rfl, _, rfl, p, C, dx, _, _, rfl, s3 _ _ s1e, PC.cl, PC.a3, lk3, x.2.1, en m b, rfl, rfl, by omega, ?_⟩
              refine ⟨_, rfl, x.2.1 * en m b, x.2.2, rfl, rfl, 1, cd (en m b) x.2, rfl, rfl, by decide, by show x.2.1 * en m b + x.2.2 ≤ 1000000; omega, ok rfl _ _ Same.rfl ?_⟩
              rw [Nat.one_mul]
            · have e5 := (al3.mono (Ψ := fun (q : Addr × Pr) y => y = V.int ((2 ^ cd (en m b) q.2 : Nat) : Int)) fun _ _ h => h).map
              rw [List.filter_eq_self.mpr (fun _ _ => rfl)] at e5
              refine ⟨D2, ks.map fun q => ((2 ^ cd (en m b) q.2 : Nat) : Int), rfl, .inl (.inl ?_), ?_⟩
              · rw [e3, e5, List.map_map]
                rfl
              · have z : (ks.map fun q => ((2 ^ cd (en m b) q.2 : Nat) : Int)).sum = ((bitsN (en m b) (prsOf ks) : Nat) : Int) := bits_sum ks (nodup_codes sm nd')
                rw [z]
                exact q H3 (s1.trans s3)
end
end SQ

set_option Elab.async false
set_option linter.all false
set_option maxRecDepth 100000
set_option maxHeartbeats 4000000
namespace SQ
open PySem PySem.Spec PyProof.Rows L2
section
variable {P : Program} {w : World} {K : PySem.W.Frag} {mg : Str → Option Value} {base : Heap}
abbrev NSpaceeither : List Str := ["self", "one", "other"]
theorem scSpaceeither : FnScope NSpaceeither ["self", "one", "other"] (defScope sSpaceeither) := ⟨rfl, rfl, rfl, by decide +kernel, rfl, by decide +kernel, by decide +kernel⟩
theorem ok_Spaceeither {f : Addr} {fd : FuncData} (F : Fun K "either" "Space.either" sSpaceeither f fd) (T : Nm mg) {C : Addr} (PC : SpC K mg C) (Mchk : MCal P w K mg base C 4 "_check_relation" ["self", "value"] (spChkRel C)) : FnOk P w K mg base CX0 5 f fd ["self", "one", "other"] (spTwo C gOr) := by
  have nd := scSpaceeither.nd
  refine F.ok scSpaceeither (fun vs H Q E h => ?_) (fun cdv A outer s H vs Q E hr h => ?_)
  · obtain ⟨p, m, b, r, s', rfl, sp, r1, s1, q⟩ := h
    rfl
  · obtain ⟨p, m, b, r, s', rfl, sp, r1, s1, q⟩ := h
    skip
    refine ⟨_, (pss_cons (ps_expr (pe_ownM Mchk PC.cl (hr.mono (by decide)) (pv 0) (pa_cons (pv 1) pa_nil)))
  (pss_cons (ps_expr (pe_ownM Mchk PC.cl (hr.mono (by decide)) (pv 0) (pa_cons (pv 2) pa_nil)))
  (pss_one (ps_ret (pe_op op_orNN (pv 1) (pv 2)))))), ?_⟩

    obtain ⟨mm, dx, e⟩ := sp
    refine ⟨_, rfl, p, dx, _, rfl, e, noF, _, rfl, p, m, b, r, rfl, ⟨mm, dx, e⟩, r1, ?_⟩
    refine ⟨_, rfl, p, dx, _, rfl, e, noF, _, rfl, p, m, b, s', rfl, ⟨mm, dx, e⟩, s1, ?_⟩
    exact ⟨_, rfl, _, rfl, r, s', rfl, rfl, q H Same.rfl⟩
end
end SQ

set_option Elab.async false
set_option linter.all false
set_option maxRecDepth 100000
set_option maxHeartbeats 4000000
namespace SQ
open PySem PySem.Spec PyProof.Rows L2
section
variable {P : Program} {w : World} {K : PySem.W.Frag} {mg : Str → Option Value} {base : Heap}
abbrev NSpaceis_within : List Str := ["self", "one", "other"]
theorem scSpaceis_within : FnScope NSpaceis_within ["self", "one", "other"] (defScope sSpaceis_within) := ⟨rfl, rfl, rfl, by decide +kernel, rfl, by decide +kernel, by decide +kernel⟩
theorem ok_Spaceis_within {f : Addr} {fd : FuncData} (F : Fun K "is_within" "Space.is_within" sSpaceis_within f fd) (T : Nm mg) {C : Addr} (PC : SpC K mg C) (Mchk : MCal P w K mg base C 4 "_check_relation" ["self", "value"] (spChkRel C)) : FnOk P w K mg base CX0 5 f fd ["self", "one", "other"] (spTwo C gIn) := by
  have nd := scSpaceis_within.nd
  refine F.ok scSpaceis_within (fun vs H Q E h => ?_) (fun cdv A outer s H vs Q E hr h => ?_)
  · obtain ⟨p, m, b, r, s', rfl, sp, r1, s1, q⟩ := h
    rfl
  · obtain ⟨p, m, b, r, s', rfl, sp, r1, s1, q⟩ := h
    skip
    refine ⟨_, (pss_cons (ps_expr (pe_ownM Mchk PC.cl (hr.mono (by decide)) (pv 0) (pa_cons (pv 1) pa_nil)))
  (pss_cons (ps_expr (pe_ownM Mchk PC.cl (hr.mono (by decide)) (pv 0) (pa_cons (pv 2) pa_nil)))
  (pss_one (ps_ret (pe_cmpR op_eq (pe_op op_orNN (pv 1) (pv 2)) (pv 2) (nomark _)))))), ?_⟩

    obtain ⟨mm, dx, e⟩ := sp
    refine ⟨_, rfl, p, dx, _, rfl, e, noF, _, rfl, p, m, b, r, rfl, ⟨mm, dx, e⟩, r1, ?_⟩
    refine ⟨_, rfl, p, dx, _, rfl, e, noF, _, rfl, p, m, b, s', rfl, ⟨mm, dx, e⟩, s1, ?_⟩
    refine ⟨_, rfl, _, rfl, r, s', rfl, rfl, _, rfl, rfl, ?_⟩
    rw [int_dec]
    exact q H Same.rfl
end
end SQ

set_option Elab.async false
set_option linter.all false
set_option maxRecDepth 100000
set_option maxHeartbeats 4000000
namespace SQ
open PySem PySem.Spec PyProof.Rows L2
section
variable {P : Program} {w : World} {K : PySem.W.Frag} {mg : Str → Option Value} {base : Heap}
abbrev NSpace__eq__ : List Str := ["self", "other"]
theorem scSpace__eq__ : FnScope NSpace__eq__ ["self", "other"] (defScope sSpace__eq__) := ⟨rfl, rfl, rfl, by decide +kernel, rfl, by decide +kernel, by decide +kernel⟩
theorem ok_Space__eq__ {f : Addr} {fd : FuncData} (F : Fun K "__eq__" "Space.__eq__" sSpace__eq__ f fd) (T : Nm mg) {C : Addr} (PC : SpC K mg C) : FnOk P w K mg base CX0 1 f fd ["self", "other"] (spEq C K) := by
  have nd := scSpace__eq__.nd
  refine F.ok scSpace__eq__ (fun vs H Q E h => ?_) (fun cdv A outer s H vs Q E hr h => ?_)
  · obtain ⟨p, m, b, y, rfl, sp, q⟩ := h
    rfl
  · obtain ⟨p, m, b, y, rfl, sp, q⟩ := h
    skip
    refine ⟨_, (pss_one (ps_ret (pe_and (pe_callB call_isi (by rfl) T.b_isinstance (by decide +kernel) (pa_cons (pv 1) (pa_cons (pe_glob (v := .ref C) (by rfl) PC.gC rfl) pa_nil))) (pe_and (pe_cmpR op_eq (pe_fld (pv 0) rfl) (pe_fld (pv 1) rfl) (nomark _)) (pe_one (pe_cmpR op_eq (pe_fld (pv 0) rfl) (pe_fld (pv 1) rfl) (nomark _))))))), ?_⟩

    obtain ⟨mm, dx, e⟩ := sp
    rcases q with ⟨p2, n, c, rfl, ⟨nn, dx2, e2⟩, q⟩ | ⟨t, xs, rfl, sq, q⟩
    · have ty : TyX K H (.ref p2) (.ref C) := .base (.ins e2 PC.cl PC.ha PC.hn PC.htk PC.hm)
      refine ⟨_, rfl, _, _, _, _, true, rfl, .own C, ty, PC.self, true, rfl, iteT ?_⟩
      refine ⟨_, rfl, p, C, dx, _, _, rfl, e, PC.cl, PC.a1, lk1, _, rfl, p2, C, dx2, _, _, rfl, e2, PC.cl, PC.a1, lk1, rfl, _, rfl, ?_⟩
      rw [int_dec]
      refine ite2 (fun h => ?_) (fun h => ?_)
      · rw [h, Bool.true_and] at q
        refine ⟨_, rfl, p, C, dx, _, _, rfl, e, PC.cl, PC.a2, lk2, _, rfl, p2, C, dx2, _, _, rfl, e2, PC.cl, PC.a2, lk2, rfl, ?_⟩
        have eb : decide (V.bl b = V.bl c) = (b == c) := by cases b <;> cases c <;> rfl
        rw [eb]
        exact q
      · rw [Bool.not_eq_true _ |>.mp h, Bool.false_and] at q
        exact q
    · exact ⟨_, rfl, _, _, _, _, false, rfl, .own C, ty_tup sq, PC.kt, false, rfl, q⟩
end
end SQ

set_option Elab.async false
set_option linter.all false
set_option maxRecDepth 100000
set_option maxHeartbeats 4000000
namespace SQ
open PySem PySem.Spec PyProof.Rows L2
section
variable {P : Program} {w : World} {K : PySem.W.Frag} {mg : Str → Option Value} {base : Heap}
abbrev NSpace__str__ : List Str := ["self", "behind"]
theorem scSpace__str__ : FnScope NSpace__str__ ["self"] (defScope sSpace__str__) := ⟨rfl, rfl, rfl, by decide +kernel, rfl, by decide +kernel, by decide +kernel⟩
theorem ok_Space__str__ {f : Addr} {fd : FuncData} (F : Fun K "__str__" "Space.__str__" sSpace__str__ f fd) (T : Nm mg) {C : Addr} (PC : SpC K mg C) : FnOk P w K mg base CX0 1 f fd ["self"] (spStr C) := by
  have nd := scSpace__str__.nd
  refine F.ok scSpace__str__ (fun vs H Q E h => ?_) (fun cdv A outer s H vs Q E hr h => ?_)
  · obtain ⟨p, m, b, rfl, sp, q⟩ := h
    rfl
  · obtain ⟨p, m, b, rfl, sp, q⟩ := h
    skip
    refine ⟨_, (pss_cons (ps_set (i := 1) nd rfl (Or.inl rfl) (pe_ifExp (pt_val (pe_fld (pv 0) rfl)) pe_str pe_str))
  (pss_one (ps_ret (pe_joined (.cons (pe_fmt (pe_fld (pv 0) rfl)) (.cons pe_str (.cons (pe_fmt (pe_fld (pv 0) rfl)) (.cons pe_str (.cons (pe_fmt (pv 1)) .nil))))))))), ?_⟩

    obtain ⟨⟨m1, m3⟩, dx, e⟩ := sp
    have three : m = 1 ∨ m = 2 ∨ m = 3 := by omega
    have h : ∀ {z w : Str}, w = z → Q (.str w) H → Q (.str z) H := fun e h => e ▸ h
    have z : sizeLine = 16777216 := sizeLine_eq
    rcases three with rfl | rfl | rfl <;> cases b
    all_goals
      refine ⟨_, rfl, p, C, dx, _, _, rfl, e, PC.cl, PC.a2, lk2, _, rfl, ?_⟩
      first | refine iteT ?_ | refine iteF ?_
      refine ⟨_, rfl, p, C, dx, _, _, rfl, e, PC.cl, PC.a4, lk4, .inr ⟨_, rfl, by decide +kernel, _, rfl, by decide +kernel, ?_⟩⟩
      refine ⟨_, rfl, by decide +kernel, ?_⟩
      refine ⟨_, rfl, p, C, dx, _, _, rfl, e, PC.cl, PC.a1, lk1, .inr ⟨_, rfl, by decide +kernel, _, rfl, by decide +kernel, ?_⟩⟩
      refine ⟨_, rfl, by decide +kernel, ?_⟩
      refine ⟨_, rfl, .inl ⟨_, rfl, by decide +kernel, _, rfl, by decide +kernel, ?_⟩⟩
      exact h (by decide +kernel) q
end
end SQ

set_option Elab.async false
set_option linter.all false
set_option maxRecDepth 100000
set_option maxHeartbeats 4000000
namespace SQ
open PySem PySem.Spec PyProof.Rows L2
section
variable {P : Program} {w : World} {K : PySem.W.Frag} {mg : Str → Option Value} {base : Heap}
abbrev N_law_urn : List Str := ["_law_script", "_law_at", "_law_cell", "_law_great", "_law_seed"]
theorem sc_law_urn : FnScope N_law_urn ["_law_script", "_law_at"] (defScope s_law_urn) := ⟨rfl, rfl, rfl, by decide +kernel, rfl, by decide +kernel, by decide +kernel⟩
theorem ok_l_urn {f : Addr} {fd : FuncData} (F : Fun K "_law_urn" "_law_urn" s_law_urn f fd) (T : Nm mg) : FnOk P w K mg base CX0 1 f fd ["_law_script", "_law_at"] (spUrn K) := by
  have nd := sc_law_urn.nd
  refine F.ok sc_law_urn (fun vs H Q E h => ?_) (fun cdv A outer s H vs Q E hr h => ?_)
  · obtain ⟨a, ns, i, rfl, sq, hi, q⟩ := h
    rfl
  · obtain ⟨a, ns, i, rfl, sq, hi, q⟩ := h
    skip
    refine ⟨_, (pss_cons (ps_set (i := 2) nd rfl (Or.inl rfl) (pe_ifExp (pt_cmpR op_lt (pv 1) (pe_callB call_len (by rfl) T.b_len PySem.boot_len (pa_cons (pv 0) pa_nil)) (nomark _)) (pe_ix ix_list (pv 0) (pv 1) (fun _ _ => rfl)) (pe_op op_add (pe_op op_mul pe_int (pv 1)) pe_int)))
  (pss_cons (ps_set (i := 3) nd rfl (Or.inl rfl) (pe_op op_mod (pe_callTy call_int1 (by rfl) T.b_int (by decide +kernel) (pa_cons (pe_callB call_abs (by rfl) T.b_abs (by decide +kernel) (pa_cons (pv 2) pa_nil)) pa_nil)) (pe_op op_powW (pe_op op_pow pe_int pe_int) pe_int)))
  (pss_cons (ps_set (i := 4) nd rfl (Or.inl rfl) (pe_op op_mod (pe_callTy call_int1 (by rfl) T.b_int (by decide +kernel) (pa_cons (pe_op op_add (pe_op op_add (pe_op op_add (pe_op op_mul (pv 3) pe_int) (pe_op op_mul pe_int (pv 1))) (pe_op op_mul pe_int (pe_callTy call_int1 (by rfl) T.b_int (by decide +kernel) (pa_cons (pe_cmpR op_lt (pv 2) pe_int (nomark _)) pa_nil)))) pe_int) pa_nil)) pe_int))
  (pss_one (ps_ret (pe_lst (pa_cons (pe_callB (call_max2 rfl) (by rfl) T.b_max (by decide +kernel) (pa_cons pe_int (pa_cons (pe_op op_sub (pv 3) (pe_op op_pow pe_int pe_int)) pa_nil))) (pa_cons (pv 4) (pa_cons pe_int pa_nil))))))))), ?_⟩

    refine ⟨_, rfl, _, rfl, _, _, rfl, .inl ⟨_, sq, rfl⟩, _, _, rfl, rfl, _, rfl, ite2 (fun e => ?A) (fun _ => ?B)⟩
    case' A =>
      have hl : i < ns.length := by
        have e1 := of_decide_eq_true e
        rw [List.length_map] at e1
        omega
      have g : (ns.map V.int)[i]? = some (.int ns[i]) := by
        rw [List.getElem?_map, List.getElem?_eq_getElem hl]
        rfl
      refine ⟨_, rfl, _, rfl, a, _, (i : Int), _, rfl, rfl, sq, atI_nat g, ?_⟩
      generalize ns[i] = c
    case' B =>
      refine ⟨_, rfl, _, _, rfl, rfl, .inl ⟨by decide, by decide⟩, _, _, rfl, rfl, ?_⟩
      generalize (83 : Int) * (i : Int) + 37 = c
    all_goals
      refine ⟨_, rfl, _, rfl, .inl ⟨_, rfl, ?_⟩⟩
      generalize (if c < 0 then -c else c) = c1
      refine ⟨_, _, rfl, rfl, ⟨by decide, by decide, by decide⟩, _, _, rfl, rfl, ⟨by decide, by decide +kernel⟩, ?_⟩
      refine ⟨_, _, rfl, rfl, Int.pow_pos (Int.pow_pos (by decide)), ?_⟩
      generalize c1 % _ = c2
      refine ⟨_, rfl, _, _, rfl, rfl, .inr ⟨by decide, by decide⟩, ?_⟩
      refine ⟨_, rfl, _, _, rfl, rfl, .inl ⟨by decide, by decide⟩, ?_⟩
      refine ⟨_, _, rfl, rfl, ?_⟩
      refine ⟨_, rfl, _, _, rfl, rfl, .inr ⟨_, rfl, ?_⟩⟩
      refine ⟨_, _, rfl, rfl, .inl ⟨by decide, by decide⟩, _, _, rfl, rfl, _, _, rfl, rfl, .inl ⟨_, rfl, ?_⟩⟩
      refine ⟨_, _, rfl, rfl, (by show (0:Int) < 2305843009213693921; decide), ?_⟩
      refine ⟨_, rfl, _, _, rfl, rfl, ⟨by decide, by decide, by decide⟩, ?_⟩
      refine ⟨_, _, rfl, rfl, _, _, rfl, ?_⟩
      refine ⟨_, rfl, ?_⟩
      refine ⟨(by show 3 ≤ sizeLine; decide), fun p hp => q _ p (same_upd hp) hp ⟨_, _, _, upd_same⟩⟩
end
end SQ

set_option Elab.async false
set_option linter.all false
set_option maxRecDepth 100000
set_option maxHeartbeats 4000000
namespace SQ
open PySem PySem.Spec PyProof.Rows L2
section
variable {P : Program} {w : World} {K : PySem.W.Frag} {mg : Str → Option Value} {base : Heap}
abbrev N_law_take : List Str := ["_law_urn_here", "_law_total", "_law_found", "_law_one_here", "_law_two", "_law_three"]
theorem sc_law_take : FnScope N_law_take ["_law_urn_here", "_law_total"] (defScope s_law_take) := ⟨rfl, rfl, rfl, by decide +kernel, rfl, by decide +kernel, by decide +kernel⟩
theorem ok_l_take {f : Addr} {fd : FuncData} (F : Fun K "_law_take" "_law_take" s_law_take f fd) (T : Nm mg) : FnOk P w K mg base CX0 1 f fd ["_law_urn_here", "_law_total"] (spTake) := by
  have nd := sc_law_take.nd
  refine F.ok sc_law_take (fun vs H Q E h => ?_) (fun cdv A outer s H vs Q E hr h => ?_)
  · obtain ⟨a, n, rfl, ⟨x, y, z, hd⟩, n0, n1, q⟩ := h
    rfl
  · obtain ⟨a, n, rfl, ⟨x, y, z, hd⟩, n0, n1, q⟩ := h
    skip
    refine ⟨_, (pss_cons (ps_if (pt_cmpR op_gt (pe_ix ix_list (pv 0) pe_int (fun _ _ => rfl)) pe_int (nomark _))
  (pss_cons (ps_set (i := 2) nd rfl (Or.inl rfl) (pe_op op_mod (pe_callTy call_int1 (by rfl) T.b_int (by decide +kernel) (pa_cons (pe_ix ix_list (pv 0) pe_int (fun _ _ => rfl)) pa_nil)) (pv 1)))
  (pss_cons (ps_asg (pe_op op_fdiv (pe_ix ix_list (pv 0) pe_int (fun _ _ => rfl)) (pv 1)) (pg_sub (pv 0) pe_int L2.set_list))
  (pss_one (ps_ret (pv 2)))))
  pss_nil)
  (pss_cons (ps_asg (pe_op op_add (pe_ix ix_list (pv 0) pe_int (fun _ _ => rfl)) pe_int) (pg_sub (pv 0) pe_int L2.set_list))
  (pss_cons (ps_set (i := 3) nd rfl (Or.inl rfl) (pe_op op_mod (pe_callTy call_int1 (by rfl) T.b_int (by decide +kernel) (pa_cons (pe_op op_add (pe_ix ix_list (pv 0) pe_int (fun _ _ => rfl)) (pe_op op_mul pe_int (pe_ix ix_list (pv 0) pe_int (fun _ _ => rfl)))) pa_nil)) pe_int))
  (pss_cons (ps_set (i := 4) nd rfl (Or.inl rfl) (pe_op op_mod (pe_callTy call_int1 (by rfl) T.b_int (by decide +kernel) (pa_cons (pe_op op_add (pe_op op_mul (pv 3) (pv 3)) (pe_op op_mul pe_int (pe_ix ix_list (pv 0) pe_int (fun _ _ => rfl)))) pa_nil)) pe_int))
  (pss_cons (ps_set (i := 5) nd rfl (Or.inl rfl) (pe_op op_mod (pe_callTy call_int1 (by rfl) T.b_int (by decide +kernel) (pa_cons (pe_op op_add (pe_op op_mul (pv 4) (pv 4)) (pv 3)) pa_nil)) pe_int))
  (pss_one (ps_ret (pe_op op_mod (pe_callTy call_int1 (by rfl) T.b_int (by decide +kernel) (pa_cons (pe_op op_fdiv (pv 5) pe_int) pa_nil)) (pv 1))))))))), ?_⟩

    have sq : SqL K H a [.int x, .int y, .int z] := .inl (.inl hd)
    have n0' : (0 : Int) < (n : Int) := by omega
    have fin : ∀ (c : Int) (H' : Hp), Go a H H' → (∀ b, b ≠ a → H' b = H b) → Q (.int (c % (n : Int))) H' := fun c H' g f => by
      have h1 := Int.emod_nonneg c (show (n : Int) ≠ 0 by omega)
      have h2 := Int.emod_lt_of_pos c n0'
      obtain ⟨k, hk⟩ := Int.eq_ofNat_of_zero_le h1
      rw [hk] at h2 ⊢
      exact q k H' (by omega) g f
    -- urn[0] > 0
    refine ⟨_, rfl, a, _, 0, _, rfl, rfl, sq, at0, _, _, rfl, rfl, _, rfl, ite2 (fun _ => ?_) (fun _ => ?_)⟩
    · refine ⟨_, rfl, a, _, 0, _, rfl, rfl, sq, at0, .inl ⟨_, rfl, ?_⟩⟩
      refine ⟨_, rfl, _, _, rfl, rfl, n0', ?_⟩
      refine ⟨_, rfl, a, _, 0, _, rfl, rfl, sq, at0, _, rfl, _, _, rfl, rfl, ⟨n0', by omega⟩, ?_⟩
      refine ⟨_, rfl, a, _, 0, 0, rfl, rfl, hd, rfl, ?_⟩
      refine ⟨_, rfl, ?_⟩
      exact fin _ _ Go.put (fun b hb => upd_ne hb)
    · refine ⟨_, rfl, a, _, 2, _, rfl, rfl, sq, at2, _, _, rfl, rfl, _, rfl, a, _, 2, 2, rfl, rfl, hd, rfl, ?_⟩
      have sq2 : SqL K (upd H a (.lst [.int x, .int y, .int (z + 1)])) a [.int x, .int y, .int (z + 1)] := .inl (.inl upd_same)
      refine ⟨_, rfl, a, _, 1, _, rfl, rfl, sq2, at1, _, rfl, a, _, 2, _, rfl, rfl, sq2, at2, _, _, rfl, rfl, .inl (by decide), _, _, rfl, rfl, .inl ⟨_, rfl, ?_⟩⟩
      refine ⟨_, _, rfl, rfl, by show (0:Int) < 2305843009213693951; decide, ?_⟩
      have b1 : (0:Int) ≤ (y + 1299709 * (z + 1)) % 2305843009213693951 := Int.emod_nonneg _ (by decide)
      have b2 : (y + 1299709 * (z + 1)) % 2305843009213693951 < 2305843009213693951 := Int.emod_lt_of_pos _ (by decide)
      generalize (y + 1299709 * (z + 1)) % 2305843009213693951 = o at b1 b2 ⊢
      refine ⟨_, rfl, _, rfl, _, _, rfl, rfl, .inl ⟨by omega, by omega⟩, _, rfl, a, _, 2, _, rfl, rfl, sq2, at2, _, _, rfl, rfl, .inl (by decide), _, _, rfl, rfl, .inl ⟨_, rfl, ?_⟩⟩
      refine ⟨_, _, rfl, rfl, by show (0:Int) < 1000000000039; decide, ?_⟩
      have c1 := Int.emod_nonneg (o * o + 7919 * (z + 1)) (show (1000000000039 : Int) ≠ 0 by decide)
      have c2 := Int.emod_lt_of_pos (o * o + 7919 * (z + 1)) (show (0 : Int) < 1000000000039 by decide)
      generalize (o * o + 7919 * (z + 1)) % 1000000000039 = t at c1 c2 ⊢
      refine ⟨_, rfl, _, rfl, _, _, rfl, rfl, .inl ⟨by omega, by omega⟩, _, rfl, _, _, rfl, rfl, .inl ⟨_, rfl, ?_⟩⟩
      refine ⟨_, _, rfl, rfl, by show (0:Int) < 998244353; decide, ?_⟩
      refine ⟨_, rfl, _, _, rfl, rfl, by constructor <;> decide, .inl ⟨_, rfl, ?_⟩⟩
      refine ⟨_, rfl, _, _, rfl, rfl, n0', ?_⟩
      exact fin _ _ Go.put (fun b hb => upd_ne hb)
end
end SQ

set_option Elab.async false
set_option linter.all false
set_option maxRecDepth 100000
set_option maxHeartbeats 4000000
namespace SQ
open PySem PySem.Spec PyProof.Rows L2
section
variable {P : Program} {w : World} {K : PySem.W.Frag} {mg : Str → Option Value} {base : Heap}
abbrev N_law_some : List Str := ["_law_urn_here", "_law_items", "_law_lots", "_law_stock", "_law_found", "_law_turn"]
theorem sc_law_some : FnScope N_law_some ["_law_urn_here", "_law_items", "_law_lots"] (defScope s_law_some) := ⟨rfl, rfl, rfl, by decide +kernel, rfl, by decide +kernel, by decide +kernel⟩
theorem ok_l_some {f : Addr} {fd : FuncData} (F : Fun K "_law_some" "_law_some" s_law_some f fd) (T : Nm mg) (Cl_take : Cal P w K mg base 1 "_law_take" ["_law_urn_here", "_law_total"] spTake) : FnOk P w K mg base CX0 2 f fd ["_law_urn_here", "_law_items", "_law_lots"] (spSome K) := by
  have nd := sc_law_some.nd
  refine F.ok sc_law_some (fun vs H Q E h => ?_) (fun cdv A outer s H vs Q E hr h => ?_)
  · obtain ⟨a, b, xs, rfl, di, sq, ne, few, q⟩ := h
    rfl
  · obtain ⟨a, b, xs, rfl, di, sq, ne, few, q⟩ := h
    skip
    refine ⟨_, (pss_cons (ps_par (i := 3) (j := 4) (by rfl) nd rfl rfl (by decide) rfl rfl (pa_cons (pe_callTy call_list_of (by rfl) T.b_list (by decide +kernel) (pa_cons (pv 1) pa_nil)) (pa_cons (pe_lst pa_nil) pa_nil)) (by rfl))
  (pss_cons (ps_for PassesOwn.never rfl (pi_range1 rfl T.b_range (pa_cons (pe_callB (call_min2 rfl) (by rfl) T.b_min (by decide +kernel) (pa_cons (pv 2) (pa_cons (pe_callB call_len (by rfl) T.b_len PySem.boot_len (pa_cons (pv 1) pa_nil)) pa_nil))) pa_nil)) (pg_name (i := 5) nd rfl (Or.inl rfl))
  (pss_one (ps_expr (pe_bm PySem.F.plainAttrs_list PySem.F.slot_list_append PySem.F.type_list_append mt_append (pv 4) (pa_cons (pe_bm PySem.F.plainAttrs_list PySem.F.slot_list_pop PySem.F.type_list_pop mt_popAt (pv 3) (pa_cons (pe_own Cl_take (hr.mono (by decide)) (by rfl) (pa_cons (pv 0) (pa_cons (pe_callB call_len (by rfl) T.b_len PySem.boot_len (pa_cons (pv 3) pa_nil)) pa_nil))) pa_nil)) pa_nil)))))
  (pss_one (ps_ret (pv 4))))), ?_⟩

    refine ⟨_, rfl, b, _, rfl, .inl sq, fun p np => ?_⟩
    have npD := di.ne np
    have g1 : Go a H (upd H p (.lst xs)) := .new di np
    have e1 : upd H p (.lst xs) p = some (.lst xs) := upd_same
    generalize upd H p (.lst xs) = H1 at g1 e1 ⊢
    refine ⟨Nat.zero_le _, fun L nL => ?_⟩
    have nLD := g1.2.ne nL
    have nLp : p ≠ L := ne_of_none e1 nL
    have nL0 : H L = none := by
      cases e : H L with
      | none => rfl
      | some o =>
        rw [g1.1 _ _ nLD e] at nL
        cases nL
    have g2 : Go a H (upd H1 L (.lst [])) := g1.trans (.new g1.2 nL)
    have e2 : upd H1 L (.lst []) p = some (.lst xs) := by
      rw [upd_ne nLp]
      exact e1
    have e3 : upd H1 L (.lst []) L = some (.lst []) := upd_same
    generalize upd H1 L (.lst []) = H2 at g2 e2 e3 ⊢
    refine ⟨_, _, rfl, _, rfl, _, rfl, _, _, rfl, .inl ⟨_, g2.seq ne sq, rfl⟩, _, _, rfl, ?_⟩
    rw [ite_self]
    refine ⟨_, rfl, by omega, by omega, ?_⟩
    refine for_rgN (n := xs.length) (fun i σ H' => ∃ t zs us, σ = [some (.ref a), some (.ref b), some (.int (xs.length : Nat)), some (.ref p), some (.ref L), t] ∧ Go a H H' ∧ zs.length = i ∧ (zs ++ us).Perm xs ∧ H' p = some (.lst us) ∧ H' L = some (.lst zs)) ⟨_, [], xs, rfl, g2, rfl, .refl _, e2, e3⟩ (fun i σ H3 hi hp => ?_) (fun σ H3 hp => ?_)
    · obtain ⟨t, zs, us, rfl, g3, lz, pm, ep, eL⟩ := hp
      have lu := pm.length_eq
      rw [List.length_append] at lu
      refine ⟨_, rfl, .inl ⟨rfl, _, .inl (.inl eL)⟩, _, rfl, .inl ⟨rfl, _, .inl (.inl ep)⟩, ?_⟩
      refine ⟨_, rfl, _, rfl, _, _, rfl, .inl ⟨_, .inl (.inl ep), rfl⟩, a, us.length, rfl, g3.2, by omega, by omega, fun k H4 hk g4 f4 => ?_⟩
      have ep4 := g4.1 _ _ npD ep
      have eL4 := g4.1 _ _ nLD eL
      refine ⟨p, us, _, k, us[k], rfl, rfl, ep4, by omega, by omega, seq_at hk, List.getElem?_eq_getElem hk, ?_⟩
      have eL5 : upd H4 p (.lst (us.eraseIdx k)) L = some (.lst zs) := by
        rw [upd_ne nLp.symm]
        exact eL4
      have upd1 : ∀ {H' : Hp} {D : Addr} {o : HO}, H D = none → D ≠ a → Go a H H' → Go a H (upd H' D o) := fun n1 n2 g => ⟨fun c u n e => by
        rw [upd_ne (ne_of_none e n1)]
        exact g.1 c u n e, by
        obtain ⟨x, y, z, e⟩ := g.2
        exact ⟨x, y, z, by rw [upd_ne n2.symm]; exact e⟩⟩
      refine ⟨L, zs, _, rfl, rfl, eL5, small1000 (by omega), _, zs ++ [us[k]], us.eraseIdx k, rfl, upd1 nL0 nLD (upd1 np npD (g3.trans g4)), ?_, ?_, ?_, upd_same⟩
      · rw [List.length_append, lz]
        rfl
      · refine List.Perm.trans ?_ pm
        rw [List.append_assoc]
        exact List.Perm.append_left zs (erase_perm hk)
      · rw [upd_ne nLp, upd_same]
    · obtain ⟨t, zs, us, rfl, g3, lz, pm, ep, eL⟩ := hp
      have lu := pm.length_eq
      rw [List.length_append] at lu
      have u0 : us = [] := List.eq_nil_of_length_eq_zero (by omega)
      subst u0
      rw [List.append_nil] at pm
      exact ⟨_, rfl, q zs H3 L pm g3 nL0 nLD eL⟩
end
end SQ

set_option Elab.async false
set_option linter.all false
set_option maxRecDepth 100000
set_option maxHeartbeats 4000000
namespace SQ
open PySem PySem.Spec PyProof.Rows L2
section
variable {P : Program} {w : World} {K : PySem.W.Frag} {mg : Str → Option Value} {base : Heap}
abbrev N_law_pairs : List Str := ["_law_ends_here", "_law_relation", "_law_found", "_law_rest", "_law_at", "_law_turn"]
theorem sc_law_pairs : FnScope N_law_pairs ["_law_ends_here", "_law_relation"] (defScope s_law_pairs) := ⟨rfl, rfl, rfl, by decide +kernel, rfl, by decide +kernel, by decide +kernel⟩
theorem ok_l_pairs {f : Addr} {fd : FuncData} (F : Fun K "_law_pairs" "_law_pairs" s_law_pairs f fd) (T : Nm mg) : FnOk P w K mg base CX0 1 f fd ["_law_ends_here", "_law_relation"] (spPairsL K) := by
  have nd := sc_law_pairs.nd
  refine F.ok sc_law_pairs (fun vs H Q E h => ?_) (fun cdv A outer s H vs Q E hr h => ?_)
  · obtain ⟨e, r, rfl, e1, e4, hr4, q⟩ := h
    rfl
  · obtain ⟨e, r, rfl, e1, e4, hr4, q⟩ := h
    skip
    refine ⟨_, (pss_cons (ps_par3 (i := 2) (j := 3) (l := 4) (by rfl) nd rfl rfl rfl (by decide) (by decide) (by decide) rfl rfl rfl (pa_cons (pe_lst pa_nil) (pa_cons (pv 1) (pa_cons pe_int pa_nil))) (by rfl))
  (pss_cons (ps_for PassesOwn.never rfl (pi_range1 rfl T.b_range (pa_cons pe_int pa_nil)) (pg_name (i := 5) nd rfl (Or.inl rfl))
  (pss_cons (ps_if (pt_cmpR op_eq (pe_op op_modNN (pv 3) pe_int) pe_int (nomark _))
  (pss_one (ps_expr (pe_bm PySem.F.plainAttrs_list PySem.F.slot_list_append PySem.F.type_list_append mt_append (pv 2) (pa_cons (pe_tup (pa_cons (pe_op op_fdivNN (pv 4) (pv 0)) (pa_cons (pe_op op_modNN (pv 4) (pv 0)) pa_nil))) pa_nil))))
  pss_nil)
  (pss_one (ps_par (i := 3) (j := 4) (by rfl) nd rfl rfl (by decide) rfl rfl (pa_cons (pe_op op_fdivNN (pv 3) pe_int) (pa_cons (pe_op op_addN (pv 4) pe_int) pa_nil)) (by rfl)))))
  (pss_one (ps_ret (pv 2))))), ?_⟩

    refine ⟨Nat.zero_le _, fun F nF => ?_⟩
    refine ⟨_, rfl, _, _, _, rfl, ?_⟩
    refine ⟨12, rfl, by decide, by decide, ?_⟩
    have s1 := same_upd (o := .lst []) nF
    refine for_rgN (n := 12) (fun i σ H' => ∃ t ks, σ = [some (.int (e : Int)), some (.int (r : Int)), some (.ref F), some (.int ((r / 2 ^ i : Nat) : Int)), some (.int (i : Int)), t] ∧ Same H H' ∧ H' F = some (.lst (refs ks)) ∧ Prs K H' ks ∧ prsOf ks = ((List.range i).filter fun b => r.testBit b).map fun b => (b / e, b % e)) ⟨none, [], ?_, s1, upd_same, Prs.nil, rfl⟩ (fun i σ H3 hi hp => ?_) (fun σ H3 hp => ?_)
    · show _ = [some (V.int (e : Int)), some (.int (r : Int)), some (.ref F), some (.int ((r / 2 ^ 0 : Nat) : Int)), some (.int 0), none]
      rw [Nat.pow_zero, Nat.div_one]
      rfl
    · obtain ⟨t, ks, rfl, s3, eF, pr, ek⟩ := hp
      have step : r / 2 ^ i / 2 = r / 2 ^ (i + 1) := by rw [Nat.div_div_eq_div_mul, Nat.pow_succ]
      have bit : r / 2 ^ i % 2 = (r.testBit i).toNat := by
        rw [← and_bit, Nat.and_one_is_mod]
      refine ⟨_, rfl, r / 2 ^ i, 2, rfl, rfl, by decide, rfl, _, rfl, ?_⟩
      rw [bit]
      have lk : (refs ks).length ≤ i := by
        have h1 : (prsOf ks).length = ks.length := List.length_map ..
        rw [ek, List.length_map] at h1
        have h2 := List.length_filter_le (fun b => r.testBit b) (List.range i)
        rw [List.length_range] at h2
        rw [show (refs ks).length = ks.length from List.length_map ..]
        omega
      cases hb : r.testBit i with
      | false =>
        rw [show decide (V.int ((false.toNat : Nat) : Int) = V.int 1) = false by decide]
        refine iteF ?_
        refine ⟨_, rfl, r / 2 ^ i, 2, rfl, rfl, ⟨by decide, by decide⟩, _, rfl, i, 1, rfl, rfl, _, _, rfl, ?_⟩
        rw [step]
        refine ⟨_, ks, rfl, s3, eF, pr, ?_⟩
        rw [ek, List.range_succ, List.filter_append, List.filter_cons_of_neg (by rw [hb]; decide)]
        rw [List.filter_nil, List.append_nil]
      | true =>
        rw [show decide (V.int ((true.toNat : Nat) : Int) = V.int 1) = true by decide]
        refine iteT ?_
        refine ⟨_, rfl, .inl ⟨rfl, _, .inl (.inl eF)⟩, _, rfl, _, rfl, i, e, rfl, rfl, ⟨e1, by omega⟩, _, rfl, _, rfl, i, e, rfl, rfl, e1, by show 2 ≤ sizeLine; decide, fun p np => ?_⟩
        have nFp : F ≠ p := ne_of_none eF np
        have eF2 : upd H3 p (.tup [.int ((i / e : Nat) : Int), .int ((i % e : Nat) : Int)]) F = some (.lst (refs ks)) := by
          rw [upd_ne nFp]
          exact eF
        have sp := same_upd (o := .tup [.int ((i / e : Nat) : Int), .int ((i % e : Nat) : Int)]) np
        have ep : upd H3 p (.tup [.int ((i / e : Nat) : Int), .int ((i % e : Nat) : Int)]) p = some (.tup [.int ((i / e : Nat) : Int), .int ((i % e : Nat) : Int)]) := upd_same
        generalize upd H3 p _ = H4 at eF2 sp ep ⊢
        refine ⟨F, refs ks, _, rfl, rfl, eF2, small1000 (by omega), ?_⟩
        refine ⟨_, rfl, r / 2 ^ i, 2, rfl, rfl, ⟨by decide, by decide⟩, _, rfl, i, 1, rfl, rfl, _, _, rfl, ?_⟩
        rw [step]
        have pr4 : Prs K (upd H4 F (.lst (refs ks ++ [V.ref p]))) (ks ++ [(p, (i / e, i % e))]) := by
          exact Prs.app (Prs.set (Prs.same pr sp) eF2) (Prs.one (sqT_set eF2 (tupT ep)))
        refine ⟨_, ks ++ [(p, (i / e, i % e))], rfl, Same.set (s3.trans sp) nF, ?_, pr4, ?_⟩
        · rw [upd_same, show refs (ks ++ [(p, (i / e, i % e))]) = refs ks ++ [V.ref p] by rw [show refs (ks ++ [(p, (i / e, i % e))]) = _ from List.map_append]; rfl]
        · rw [show prsOf (ks ++ [(p, (i / e, i % e))]) = prsOf ks ++ [(i / e, i % e)] from List.map_append, ek, List.range_succ, List.filter_append, List.filter_cons_of_pos hb, List.map_append]
          rfl
    · obtain ⟨t, ks, rfl, s3, eF, pr, ek⟩ := hp
      exact ⟨_, rfl, q H3 F ks s3 nF eF pr ek⟩
end
end SQ

set_option Elab.async false
set_option linter.all false
set_option maxRecDepth 100000
set_option maxHeartbeats 4000000
namespace SQ
open PySem PySem.Spec PyProof.Rows L2
section
variable {P : Program} {w : World} {K : PySem.W.Frag} {mg : Str → Option Value} {base : Heap}
abbrev N_law_bits : List Str := ["_law_ends_here", "_law_pairs_here", "_law_powers", "_law_mode", "_law_end"]
theorem sc_law_bits : FnScope N_law_bits ["_law_ends_here", "_law_pairs_here"] (defScope s_law_bits) := ⟨rfl, rfl, rfl, by decide +kernel, rfl, by decide +kernel, by decide +kernel⟩
theorem ok_l_bits {f : Addr} {fd : FuncData} (F : Fun K "_law_bits" "_law_bits" s_law_bits f fd) (T : Nm mg) : FnOk P w K mg base CX0 1 f fd ["_law_ends_here", "_law_pairs_here"] (spBits K) := by
  have nd := sc_law_bits.nd
  refine F.ok sc_law_bits (fun vs H Q E h => ?_) (fun cdv A outer s H vs Q E hr h => ?_)
  · obtain ⟨e, l, ks, rfl, e1, e4, sq, pr, few, sm, q⟩ := h
    rfl
  · obtain ⟨e, l, ks, rfl, e1, e4, sq, pr, few, sm, q⟩ := h
    skip
    refine ⟨_, (pss_cons (ps_set (i := 2) nd rfl (Or.inr rfl) (pe_tup (pa_cons pe_int (pa_cons pe_int (pa_cons pe_int (pa_cons pe_int (pa_cons pe_int (pa_cons pe_int (pa_cons pe_int (pa_cons pe_int (pa_cons pe_int (pa_cons pe_int (pa_cons pe_int (pa_cons pe_int pa_nil))))))))))))))
  (pss_one (ps_ret (pe_callB (cr_sum rfl) (by rfl) T.b_sum (by decide +kernel) (pa_cons (pe_lc (own := [("_law_mode", 3), ("_law_end", 4)]) (g := gTup K 2 (gCons (gName 3) (gCons (gName 4) gNil))) (tt := tYes) rfl nd (pi_list (pe_callB (cr_sortedT rfl) (by rfl) T.b_sorted (by decide +kernel) (pa_cons (pe_callTy (cr_setOfT rfl hr.units) (by rfl) T.b_set (by decide +kernel) (pa_cons (pv 1) pa_nil)) pa_nil))) (blkOk_by (own := [("_law_mode", 3), ("_law_end", 4)]) (N := N_law_bits) (sc := defScope s_law_bits) (by decide +kernel)) (fun _ _ _ _ _ => (pg_tup rfl (pgs_cons (pg_name (i := 3) nd rfl (Or.inl rfl)) (pgs_cons (pg_name (i := 4) nd rfl (Or.inl rfl)) pgs_nil)))) (fun _ _ _ _ _ => pts_nil) (fun _ _ _ _ _ => (pe_ix (ix_tupK (K := K) rfl) (pv 2) (pe_op op_addN (pe_op op_mulN (pv 3) (pv 0)) (pv 4)) (fun _ _ => rfl)))) pa_nil))))), ?_⟩

    refine ⟨by show 12 ≤ sizeLine; decide, fun pw npw => ?_⟩
    have s1 : Same H (upd H pw (.tup pows)) := same_upd npw
    have epw : upd H pw (.tup pows) pw = some (.tup pows) := upd_same
    have hh : upd H pw (.tup [.int 1, .int 2, .int 4, .int 8, .int 16, .int 32, .int 64, .int 128, .int 256, .int 512, .int 1024, .int 2048]) = upd H pw (.tup pows) := rfl
    rw [hh]
    generalize upd H pw (.tup pows) = H1 at s1 epw ⊢
    have pr1 := Prs.same pr s1
    refine ⟨_, rfl, l, ks.map ofPr, rfl, ?_, fun p hp => ?_, by rw [List.length_map]; exact few, fun a L na sub cov => ?_⟩
    · rw [List.map_map]
      exact Same.seq s1 sq
    · obtain ⟨x, hx, rfl⟩ := List.mem_map.mp hp
      exact pr1 x hx
    · obtain ⟨M, rfl, hM⟩ := ofPr_back sub
      have s2' := same_upd (o := SetTO P w a (M.map ofPr)) na
      have ea : upd H1 a (SetTO P w a (M.map ofPr)) a = some (SetTO P w a (M.map ofPr)) := upd_same
      refine (?_ : (fun (H2 : Hp) => Same H1 H2 → H2 a = some (SetTO P w a (M.map ofPr)) → tNil _ H2 _) (upd H1 a (SetTO P w a (M.map ofPr)))) s2' ea
      generalize upd H1 a (SetTO P w a (M.map ofPr)) = H2
      intro s2' ea
      have pr2 := Prs.same pr1 s2'
      refine ⟨a, M.map ofPr, 2, 64, rfl, ea, fun p hp => ?_, by decide, fun p hp => ?_, fun L' p pm nd' few' _ np => ?_⟩
      · obtain ⟨x, hx, rfl⟩ := List.mem_map.mp hp
        exact pr2 x (hM x hx)
      · obtain ⟨x, hx, rfl⟩ := List.mem_map.mp hp
        obtain ⟨h1, h2⟩ := sm x.2 (List.mem_map_of_mem (hM x hx))
        have h3 : x.2.1 ≤ x.2.1 * e := Nat.le_mul_of_pos_right _ e1
        have h4 : cd e x.2 = x.2.1 * e + x.2.2 := rfl
        refine ⟨rfl, fun m hm => ?_⟩
        rcases List.mem_cons.mp hm with rfl | hm
        · omega
        · cases List.mem_singleton.mp hm
          omega
      · obtain ⟨N, rfl, hN⟩ := ofPr_back (L := L') (ks := M) fun p hp => pm.mem_iff.mp hp
        have ndN := ofPr_nodup nd'
        have s3' := s2'.trans (same_upd (o := .lst ((N.map ofPr).map fun q => V.ref q.1)) np)
        have ep : upd H2 p (.lst ((N.map ofPr).map fun q => V.ref q.1)) p = some (.lst ((N.map ofPr).map fun q => V.ref q.1)) := upd_same
        generalize upd H2 p _ = H3 at s3' ep ⊢
        have pr3 := Prs.same pr1 s3'
        have lN : N.length < 64 := by
          rw [List.length_map] at few'
          exact few'
        refine ⟨p, rfl, ⟨_, .inl (.inl ep)⟩, fun D nD => ?_⟩
        refine lcL N (fun q => .ref q.1) (fun _ => true) (fun q y _ => y = .int ((2 ^ cd e q.2 : Nat) : Int)) (by rw [List.map_map]; rfl) (Rg.same nD) (fun H' s => Same.seq s (.inl (.inl ep))) (fun _ _ _ _ _ _ h => h) (fun _ _ _ _ _ h => h) (by omega) (fun x H4 Ok No hx s4 _ ok _ => ?_) (fun H4 ys s4 e4 al => ?_)
        · obtain ⟨h1, h2⟩ := sm x.2 (List.mem_map_of_mem (hM x (hN x hx)))
          have h3 : x.2.1 ≤ x.2.1 * e := Nat.le_mul_of_pos_right _ e1
          have h4 : cd e x.2 = x.2.1 * e + x.2.2 := rfl
          refine ⟨x.1, _, rfl, Same.sqT s4 (pr3 x (hM x (hN x hx))), rfl, _, _, rfl, _, _, rfl, rfl, ?_⟩
          refine ⟨rfl, _, rfl, _, rfl, _, rfl, x.2.1, e, rfl, rfl, by omega, ?_⟩
          refine ⟨_, rfl, _, x.2.2, rfl, rfl, ?_⟩
          exact ⟨pw, pows, _, _, rfl, rfl, tupT (s4 _ _ (s3' _ _ epw)), atI_nat (pows_at _ h2), ok rfl _ _ Same.rfl rfl⟩
        · have e5 := (al.mono (Ψ := fun (q : Addr × Pr) y => y = V.int ((2 ^ cd e q.2 : Nat) : Int)) fun _ _ h => h).map
          rw [List.filter_eq_self.mpr (fun _ _ => rfl)] at e5
          refine ⟨D, N.map fun q => ((2 ^ cd e q.2 : Nat) : Int), rfl, .inl (.inl ?_), ?_⟩
          · rw [e4, e5, List.map_map]
            rfl
          · have sm' : ∀ x ∈ prsOf N, x.1 < 12 ∧ x.2 < e := fun x hx => by
              obtain ⟨y, hy, rfl⟩ := List.mem_map.mp hx
              obtain ⟨h1, h2⟩ := sm y.2 (List.mem_map_of_mem (hM y (hN y hy)))
              have h3 : y.2.1 ≤ y.2.1 * e := Nat.le_mul_of_pos_right _ e1
              have h4 : cd e y.2 = y.2.1 * e + y.2.2 := rfl
              exact ⟨by omega, h1⟩
            have z : (N.map fun q => ((2 ^ cd e q.2 : Nat) : Int)).sum = ((bitsN e (prsOf N) : Nat) : Int) := bits_sum N (nodup_codes sm' ndN)
            have zz : bitsN e (prsOf N) = bitsN e (prsOf ks) := bits_mem fun x => by
              constructor
              · intro hx
                obtain ⟨y, hy, rfl⟩ := List.mem_map.mp hx
                exact List.mem_map_of_mem (hM y (hN y hy))
              · intro hx
                obtain ⟨y, hy, rfl⟩ := List.mem_map.mp hx
                have h1 := cov (ofPr y) (List.mem_map_of_mem hy)
                rw [← (pm.map (·.2)).mem_iff] at h1
                obtain ⟨p', hp', e6⟩ := List.mem_map.mp h1
                obtain ⟨y', hy', rfl⟩ := List.mem_map.mp hp'
                rw [← ofPr_snd _ _ e6]
                exact List.mem_map_of_mem hy'
            rw [z, zz]
            exact q H4 (s1.trans (s3'.trans s4))
end
end SQ

set_option Elab.async false
set_option linter.all false
set_option maxRecDepth 100000
set_option maxHeartbeats 4000000
namespace SQ
open PySem PySem.Spec PyProof.Rows L2
section
variable {P : Program} {w : World} {K : PySem.W.Frag} {mg : Str → Option Value} {base : Heap}
abbrev N_law_within : List Str := ["_law_one_here", "_law_other", "_law_pair"]
theorem sc_law_within : FnScope N_law_within ["_law_one_here", "_law_other"] (defScope s_law_within) := ⟨rfl, rfl, rfl, by decide +kernel, rfl, by decide +kernel, by decide +kernel⟩
theorem ok_l_within {f : Addr} {fd : FuncData} (F : Fun K "_law_within" "_law_within" s_law_within f fd) (T : Nm mg) : FnOk P w K mg base CX0 1 f fd ["_law_one_here", "_law_other"] (spWithin K) := by
  have nd := sc_law_within.nd
  refine F.ok sc_law_within (fun vs H Q E h => ?_) (fun cdv A outer s H vs Q E hr h => ?_)
  · obtain ⟨l1, l2, ks, ls, rfl, sq1, sq2, pr1, pr2, few1, few2, q⟩ := h
    rfl
  · obtain ⟨l1, l2, ks, ls, rfl, sq1, sq2, pr1, pr2, few1, few2, q⟩ := h
    skip
    refine ⟨_, (pss_one (ps_ret (pe_cmpR (op_eqD hr.units) (pe_lc (own := [("_law_pair", 2)]) (g := gName 2) rfl nd (pi_list (pv 0)) (blkOk_by (own := [("_law_pair", 2)]) (N := N_law_within) (sc := defScope s_law_within) (by decide +kernel)) (fun _ _ _ _ _ => (pg_name (i := 2) nd rfl (Or.inl rfl))) (fun _ _ _ _ _ => pts_one (pt_cmpR (op_notInLK (K := K) rfl (u65 hr)) (pv 2) (pv 1) (by rfl))) (fun _ _ _ _ _ => (pv 2))) (pe_lst pa_nil) (nomark _)))), ?_⟩

    have lk : (refs ks).length = ks.length := List.length_map ..
    have ll : (refs ls).length = ls.length := List.length_map ..
    refine ⟨_, rfl, l1, rfl, ⟨_, sq1⟩, fun D nD => ?_⟩
    refine lcL (xs := refs ks) ks (fun q => .ref q.1) (fun q => decide (q.2 ∉ prsOf ls)) (fun q y _ => y = .ref q.1) rfl (Rg.same nD) (fun H' s => Same.seq s sq1) (fun _ _ _ _ _ _ h => h) (fun _ _ _ _ _ h => h) (by omega) (fun x H1 Ok No hx s1 _ ok no => ?_) (fun H1 ys s1 e1 al => ?_)
    · refine ⟨rfl, _, rfl, _, rfl, prD x.2, (prsOf ls).map prD, dp_pr (Same.sqT s1 (pr1 x hx)), .lst (Same.seq s1 sq2) (dps_pr (Prs.same pr2 s1)), rfl, shaped_prs, ?_⟩
      rw [any_pr]
      refine ⟨_, rfl, ite2 (fun h => ?_) (fun h => ?_)⟩
      · refine ⟨_, rfl, ok ?_ _ _ Same.rfl rfl⟩
        rw [decide_not]
        exact h
      · refine no ?_ _ Same.rfl
        rw [decide_not]
        exact Bool.not_eq_true _ |>.mp h
    · have e2 := (al.mono (Ψ := fun (q : Addr × Pr) y => y = V.ref q.1) fun _ _ h => h).map
      refine ⟨Nat.zero_le _, fun z nz => ?_⟩
      have s2 := same_upd (o := .lst []) nz
      have pr2' : Prs K (upd H1 z (.lst [])) (ks.filter fun q => decide (q.2 ∉ prsOf ls)) := fun q hq => Same.sqT (s1.trans s2) (pr1 q ((List.mem_filter.mp hq).1))
      refine ⟨prsD (prsOf (ks.filter fun q => decide (q.2 ∉ prsOf ls))), .list [], .lst (.inl (.inl ?_)) (dps_pr pr2'), .lst (.inl (.inl upd_same)) .nil, shaped_prs, rfl, ?_⟩
      · rw [s2 _ _ e1, e2]
      · have e3 : prsOf (ks.filter fun q => decide (q.2 ∉ prsOf ls)) = (prsOf ks).filter fun p => decide (p ∉ prsOf ls) := by
          rw [show prsOf ks = ks.map (·.2) from rfl, List.filter_map]
          rfl
        have e4 : PyData.eqv (prsD (prsOf (ks.filter fun q => decide (q.2 ∉ prsOf ls)))) (.list []) = decide (((prsOf ks).filter fun p => decide (p ∉ prsOf ls)) = []) := by
          rw [← e3]
          exact eqv_prs _ []
        rw [e4]
        exact q _ (s1.trans s2)
end
end SQ

set_option Elab.async false
set_option linter.all false
set_option maxRecDepth 100000
set_option maxHeartbeats 4000000
namespace SQ
open PySem PySem.Spec PyProof.Rows L2
section
variable {P : Program} {w : World} {K : PySem.W.Frag} {mg : Str → Option Value} {base : Heap}
abbrev N_law_sizes : List Str := ["_law_modes", "_law_watched", "_law_ends_here"]
theorem sc_law_sizes : FnScope N_law_sizes ["_law_modes", "_law_watched"] (defScope s_law_sizes) := ⟨rfl, rfl, rfl, by decide +kernel, rfl, by decide +kernel, by decide +kernel⟩
theorem ok_l_sizes {f : Addr} {fd : FuncData} (F : Fun K "_law_sizes" "_law_sizes" s_law_sizes f fd) (T : Nm mg) : FnOk P w K mg base CX0 1 f fd ["_law_modes", "_law_watched"] (spSizes) := by
  have nd := sc_law_sizes.nd
  refine F.ok sc_law_sizes (fun vs H Q E h => ?_) (fun cdv A outer s H vs Q E hr h => ?_)
  · obtain ⟨m, b, rfl, m1, m3, q⟩ := h
    rfl
  · obtain ⟨m, b, rfl, m1, m3, q⟩ := h
    skip
    refine ⟨_, (pss_cons (ps_set (i := 2) nd rfl (Or.inl rfl) (pe_op op_addN (pv 0) (pe_callTy call_int1 (by rfl) T.b_int (by decide +kernel) (pa_cons (pv 1) pa_nil))))
  (pss_one (ps_ret (pe_lst (pa_cons (pv 2) (pa_cons (pe_ix ix_tup (pe_tup (pa_cons pe_int (pa_cons pe_int (pa_cons pe_int (pa_cons pe_int (pa_cons pe_int (pa_cons pe_int (pa_cons pe_int (pa_cons pe_int (pa_cons pe_int (pa_cons pe_int (pa_cons pe_int (pa_cons pe_int (pa_cons pe_int pa_nil)))))))))))))) (pe_op op_mulN (pv 0) (pv 2)) (fun _ _ => rfl)) pa_nil)))))), ?_⟩

    have three : m = 1 ∨ m = 2 ∨ m = 3 := by omega
    rcases three with rfl | rfl | rfl <;> cases b
    all_goals
      refine ⟨_, rfl, _, rfl, .inr ⟨_, rfl, ?_⟩⟩
      first | refine ⟨_, 1, rfl, rfl, ?_⟩ | refine ⟨_, 0, rfl, rfl, ?_⟩
      refine ⟨_, rfl, by decide, fun t nt => ?_⟩
      have s1 := same_upd (o := .tup [V.int 1, .int 2, .int 4, .int 8, .int 16, .int 32, .int 64, .int 128, .int 256, .int 512, .int 1024, .int 2048, .int 4096]) nt
      refine ⟨_, rfl, _, rfl, _, _, rfl, rfl, by decide, t, _, _, _, rfl, rfl, tupT upd_same, atI_nat (by rfl), by decide, fun l nl => ?_⟩
      refine q _ l (s1.trans (same_upd nl)) (Same.none s1 nl) upd_same
end
end SQ

set_option Elab.async false
set_option linter.all false
set_option maxRecDepth 100000
set_option maxHeartbeats 4000000
namespace SQ
open PySem PySem.Spec PyProof.Rows L2
section
variable {P : Program} {w : World} {K : PySem.W.Frag} {mg : Str → Option Value} {base : Heap}
abbrev N_law_right : List Str := ["_law_urn_here", "_law_modes", "_law_watched", "_law_space", "_law_sizes_here", "_law_text", "_law_turn", "_law_one_here", "_law_other", "_law_first", "_law_second", "_law_mode"]
theorem sc_law_right : FnScope N_law_right ["_law_urn_here"] (defScope s_law_right) := ⟨rfl, rfl, rfl, by decide +kernel, rfl, by decide +kernel, by decide +kernel⟩
theorem ok_l_right {f : Addr} {fd : FuncData} (F : Fun K "_law_right" "_law_right" s_law_right f fd) (T : Nm mg) {C : Addr} (G : SpM P w K mg base C) (Rmodes : PrP P w K mg base C "modes" "_modes") (Rwatched : PrP P w K mg base C "watched" "_watched") (Rends : PrP P w K mg base C "ends" "_ends") (Rsize : PrP P w K mg base C "size" "_size") (Rsame : PrP P w K mg base C "same" "_same") (Cl_take : Cal P w K mg base 1 "_law_take" ["_law_urn_here", "_law_total"] spTake) (Cl_some : Cal P w K mg base 2 "_law_some" ["_law_urn_here", "_law_items", "_law_lots"] (spSome K)) (Cl_pairs : Cal P w K mg base 1 "_law_pairs" ["_law_ends_here", "_law_relation"] (spPairsL K)) (Cl_bits : Cal P w K mg base 1 "_law_bits" ["_law_ends_here", "_law_pairs_here"] (spBits K)) (Cl_within : Cal P w K mg base 1 "_law_within" ["_law_one_here", "_law_other"] (spWithin K)) (Cl_sizes : Cal P w K mg base 1 "_law_sizes" ["_law_modes", "_law_watched"] spSizes) (Mpairs : MCal P w K mg base C 5 "pairs" ["self", "relation"] (spPairsP C K)) (Mrelation : MCal P w K mg base C 4 "relation" ["self", "pairs"] (spRelation C K)) (Meither : MCal P w K mg base C 5 "either" ["self", "one", "other"] (spTwo C gOr)) (Mis_within : MCal P w K mg base C 5 "is_within" ["self", "one", "other"] (spTwo C gIn)) : FnOk P w K mg base CX0 6 f fd ["_law_urn_here"] (spRight) := by
  have nd := sc_law_right.nd
  refine F.ok sc_law_right (fun vs H Q E h => ?_) (fun cdv A outer s H vs Q E hr h => ?_)
  · obtain ⟨a, rfl, di, q⟩ := h
    rfl
  · obtain ⟨a, rfl, di, q⟩ := h
    skip
    refine ⟨_, (pss_cons (ps_par (i := 1) (j := 2) (by rfl) nd rfl rfl (by decide) rfl rfl (pa_cons (pe_op op_addN pe_int (pe_own Cl_take (hr.mono (by decide)) (by rfl) (pa_cons (pv 0) (pa_cons pe_int pa_nil)))) (pa_cons (pe_cmpR op_eq (pe_own Cl_take (hr.mono (by decide)) (by rfl) (pa_cons (pv 0) (pa_cons pe_int pa_nil))) pe_int (nomark _)) pa_nil)) (by rfl))
  (pss_cons (ps_par (i := 3) (j := 4) (by rfl) nd rfl rfl (by decide) rfl rfl (pa_cons (pe_mkW G (hr.mono (by decide)) (by rfl) (pa_cons (pv 1) pa_nil) (pk_cons (pv 2) pk_nil)) (pa_cons (pe_own Cl_sizes (hr.mono (by decide)) (by rfl) (pa_cons (pv 1) (pa_cons (pv 2) pa_nil))) pa_nil)) (by rfl))
  (pss_cons (ps_if (pt_cmpR (op_neD hr.units) (pe_lst (pa_cons (pe_pr Rmodes G.c.cl (hr.mono (by decide)) (pv 3) rfl) (pa_cons (pe_pr Rwatched G.c.cl (hr.mono (by decide)) (pv 3) rfl) (pa_cons (pe_pr Rends G.c.cl (hr.mono (by decide)) (pv 3) rfl) (pa_cons (pe_pr Rsize G.c.cl (hr.mono (by decide)) (pv 3) rfl) pa_nil))))) (pe_op op_cat (pe_lst (pa_cons (pv 1) (pa_cons (pv 2) pa_nil))) (pv 4)) (nomark _))
  (pss_one (ps_ret pe_bl))
  pss_nil)
  (pss_cons (ps_if (pt_cmpR op_ne (pe_pr Rsame G.c.cl (hr.mono (by decide)) (pv 3) rfl) (pe_own Cl_bits (hr.mono (by decide)) (by rfl) (pa_cons (pe_ix ix_list (pv 4) pe_int (fun _ _ => rfl)) (pa_cons (pe_lc (own := [("_law_mode", 11)]) (g := gName 11) (tt := tYes) rfl nd (pi_range1 rfl T.b_range (pa_cons (pv 1) pa_nil)) (blkOk_by (own := [("_law_mode", 11)]) (N := N_law_right) (sc := defScope s_law_right) (by decide +kernel)) (fun _ _ _ _ _ => (pg_name (i := 11) nd rfl (Or.inl rfl))) (fun _ _ _ _ _ => pts_nil) (fun _ _ _ _ _ => (pe_tup (pa_cons (pv 11) (pa_cons (pv 11) pa_nil))))) pa_nil))) (nomark _))
  (pss_one (ps_ret pe_bl))
  pss_nil)
  (pss_cons (ps_set (i := 5) nd rfl (Or.inl rfl) (pe_op op_add_str (pe_op op_add_str (pe_op op_add_str (pe_op op_add_str (pe_callTy call_str_int (by rfl) T.b_str (by decide +kernel) (pa_cons (pe_ix ix_list (pv 4) pe_int (fun _ _ => rfl)) pa_nil)) pe_str) (pe_callTy call_str_int (by rfl) T.b_str (by decide +kernel) (pa_cons (pv 1) pa_nil))) pe_str) (pe_ifExp (pt_val (pv 2)) pe_str pe_str)))
  (pss_cons (ps_if (PW.pt (pw_or (pt_cmpR op_ne (pe_callTy (cr_strS G (hr.mono (by decide))) (by rfl) T.b_str (by decide +kernel) (pa_cons (pv 3) pa_nil)) (pv 5) (nomark _)) (pw_or (pt_cmpR (op_neS G (hr.mono (by decide))) (pv 3) (pe_mkW G (hr.mono (by decide)) (by rfl) (pa_cons (pv 1) pa_nil) (pk_cons (pv 2) pk_nil)) (nomark _)) (pw_or1 (pt_cmpR (op_eqS G (hr.mono (by decide))) (pv 3) (pe_mkW G (hr.mono (by decide)) (by rfl) (pa_cons (pv 1) pa_nil) (pk_cons (pe_not (pv 2)) pk_nil)) (nomark _))))))
  (pss_one (ps_ret pe_bl))
  pss_nil)
  (pss_cons (ps_for PassesOwn.never rfl (pi_range1 rfl T.b_range (pa_cons pe_int pa_nil)) (pg_name (i := 6) nd rfl (Or.inl rfl))
  (pss_cons (ps_par (i := 7) (j := 8) (by rfl) nd rfl rfl (by decide) rfl rfl (pa_cons (pe_own Cl_take (hr.mono (by decide)) (by rfl) (pa_cons (pv 0) (pa_cons (pe_ix ix_list (pv 4) pe_int (fun _ _ => rfl)) pa_nil))) (pa_cons (pe_own Cl_take (hr.mono (by decide)) (by rfl) (pa_cons (pv 0) (pa_cons (pe_ix ix_list (pv 4) pe_int (fun _ _ => rfl)) pa_nil))) pa_nil)) (by rfl))
  (pss_cons (ps_par (i := 9) (j := 10) (by rfl) nd rfl rfl (by decide) rfl rfl (pa_cons (pe_own Cl_pairs (hr.mono (by decide)) (by rfl) (pa_cons (pe_ix ix_list (pv 4) pe_int (fun _ _ => rfl)) (pa_cons (pv 7) pa_nil))) (pa_cons (pe_own Cl_pairs (hr.mono (by decide)) (by rfl) (pa_cons (pe_ix ix_list (pv 4) pe_int (fun _ _ => rfl)) (pa_cons (pv 8) pa_nil))) pa_nil)) (by rfl))
  (pss_cons (ps_if (PW.pt (pw_or (pt_cmpR (op_neD hr.units) (pe_ownM Mpairs G.c.cl (hr.mono (by decide)) (pv 3) (pa_cons (pv 7) pa_nil)) (pe_callTy call_tuple_of (by rfl) T.b_tuple (by decide +kernel) (pa_cons (pv 9) pa_nil)) (nomark _)) (pw_or1 (pt_cmpR op_ne (pe_ownM Mrelation G.c.cl (hr.mono (by decide)) (pv 3) (pa_cons (pe_callTy call_tuple_of (by rfl) T.b_tuple (by decide +kernel) (pa_cons (pe_own Cl_some (hr.mono (by decide)) (by rfl) (pa_cons (pv 0) (pa_cons (pv 9) (pa_cons (pe_callB call_len (by rfl) T.b_len PySem.boot_len (pa_cons (pv 9) pa_nil)) pa_nil)))) pa_nil)) pa_nil)) (pv 7) (nomark _)))))
  (pss_one (ps_ret pe_bl))
  pss_nil)
  (pss_cons (ps_if (pt_cmpR op_ne (pe_ownM Meither G.c.cl (hr.mono (by decide)) (pv 3) (pa_cons (pv 7) (pa_cons (pv 8) pa_nil))) (pe_own Cl_bits (hr.mono (by decide)) (by rfl) (pa_cons (pe_ix ix_list (pv 4) pe_int (fun _ _ => rfl)) (pa_cons (pe_op op_cat (pv 9) (pv 10)) pa_nil))) (nomark _))
  (pss_one (ps_ret pe_bl))
  pss_nil)
  (pss_one (ps_if (pt_cmpR op_ne (pe_callB call_repr_bl (by rfl) T.b_repr (by decide +kernel) (pa_cons (pe_ownM Mis_within G.c.cl (hr.mono (by decide)) (pv 3) (pa_cons (pv 7) (pa_cons (pv 8) pa_nil))) pa_nil)) (pe_callB call_repr_bl (by rfl) T.b_repr (by decide +kernel) (pa_cons (pe_own Cl_within (hr.mono (by decide)) (by rfl) (pa_cons (pv 9) (pa_cons (pv 10) pa_nil))) pa_nil)) (nomark _))
  (pss_one (ps_ret pe_bl))
  pss_nil)))))))
  (pss_one (ps_ret (pe_and (pe_cmpR op_eq (pe_ownM Mrelation G.c.cl (hr.mono (by decide)) (pv 3) (pa_cons (pe_tup pa_nil) pa_nil)) pe_int (nomark _)) (pe_and (pe_cmpR (op_neS G (hr.mono (by decide))) (pv 3) (pe_tup (pa_cons (pv 1) (pa_cons (pv 2) pa_nil))) (nomark _)) (pe_one (pe_cmpR (op_eqD hr.units) (pe_ownM Mpairs G.c.cl (hr.mono (by decide)) (pv 3) (pa_cons pe_int pa_nil)) (pe_tup pa_nil) (nomark _)))))))))))))), ?_⟩

    refine ⟨_, rfl, a, 3, rfl, di, by decide, by decide, fun k H1 hk g1 f1 => ?_⟩
    refine ⟨1, k, rfl, rfl, ?_⟩
    refine ⟨_, rfl, a, 2, rfl, g1.2, by decide, by decide, fun k2 H2 hk2 g2 f2 => ?_⟩
    refine ⟨rfl, _, _, rfl, ?_⟩
    obtain ⟨m, hm⟩ : ∃ m, m = 1 + k := ⟨_, rfl⟩
    rw [← hm]
    have m1 : 1 ≤ m := by omega
    have m3 : m ≤ 3 := by omega
    generalize decide (V.int (k2 : Int) = V.int 0) = b
    have g := g1.trans g2
    clear g1 g2 f1 f2 hm hk hk2
    have mm : 1 ≤ m ∧ m ≤ 3 := ⟨m1, m3⟩
    have big := men_le (b := b) mm
    have enl := en_le (b := b) mm
    have szl := size_le (b := b) mm
    -- the space
    refine ⟨_, rfl, _, rfl, rfl, rfl, fun sp dx nx ndx nex => ⟨sp, dx, m, b, rfl, upd_same, m1, m3, fun H3 k3 e3 => ⟨rfl, ?_⟩⟩⟩
    have s3 := mk_same nx ndx k3
    have g3 := g.then s3
    clear k3 s3 g nx ndx
    refine ⟨_, rfl, _, rfl, m, b, rfl, m1, m3, fun H4 Z s4 nZ eZ => ?_⟩
    have nZa := g3.2.ne nZ
    have g4 := g3.then s4
    have e4 := s4 _ _ e3
    clear g3 e3 s4 nZ
    refine ⟨_, _, rfl, ?_⟩
    refine ⟨_, rfl, sp, dx, _, rfl, e4, sp, dx, _, _, rfl, e4, lk1, _, rfl, sp, dx, _, rfl, e4, sp, dx, _, _, rfl, e4, lk2, _, rfl, sp, dx, _, rfl, e4, sp, dx, _, _, rfl, e4, lk3, _, rfl, sp, dx, _, rfl, e4, sp, dx, _, _, rfl, e4, lk4, by show 4 ≤ sizeLine; decide, fun l1 nl1 => ?_⟩
    generalize hX : upd H4 l1 _ = H5
    have s5 : Same H4 H5 := by
      rw [← hX]
      exact same_upd nl1
    have e5 := (congrFun hX l1).symm.trans upd_same
    clear hX
    refine ⟨_, rfl, _, rfl, by show 2 ≤ sizeLine; decide, fun l2 nl2 => ?_⟩
    generalize hX : upd H5 l2 _ = H6
    have s6 : Same H5 H6 := by
      rw [← hX]
      exact same_upd nl2
    have e6 := (congrFun hX l2).symm.trans upd_same
    clear hX
    have eZ6 := (s5.trans s6) _ _ eZ
    refine ⟨_, rfl, l2, Z, _, _, rfl, rfl, e6, eZ6, by show 4 ≤ sizeLine; decide, fun l3 nl3 => ?_⟩
    generalize hX : upd H6 l3 _ = H7
    have s7 : Same H6 H7 := by
      rw [← hX]
      exact same_upd nl3
    have e7 := (congrFun hX l3).symm.trans upd_same
    clear hX
    have s47 := s5.trans (s6.trans s7)
    have dat : DpAll K H7 [V.int (m : Int), .bl b, .int (en m b : Nat), .int ((2 ^ (m * en m b) : Nat) : Int)] [.int (m : Int), .bool b, .int (en m b : Nat), .int ((2 ^ (m * en m b) : Nat) : Int)] := .cons (.int _) (.cons (.bl _) (.cons (.int _) (.cons (.int _) .nil)))
    refine ⟨_, _, .lst (.inl (.inl ((s6.trans s7) _ _ e5))) dat, .lst (.inl (.inl e7)) dat, rfl, rfl, _, rfl, ?_⟩
    rw [SeqAt.eqv_refl _ (by rfl)]
    refine iteF ?_
    have g7 := g4.then s47
    have ez7 := s47 _ _ eZ
    have ep7 := s47 _ _ e4
    clear dat s47 e7 s7 e6 s6 e5 s5 eZ6 nl1 nl2 nl3 g4 eZ e4
    -- same
    refine ⟨_, rfl, sp, dx, _, rfl, ep7, sp, dx, _, _, rfl, ep7, lk5, _, rfl, Z, _, 0, _, rfl, rfl, .inl (.inl ez7), at0, _, rfl, _, rfl, by omega, by omega, fun D nD => ?_⟩
    refine lcR (n := m) (fun _ => true) (fun i y H' => ∃ t, t ≠ D ∧ y = .ref t ∧ SqT K H' t (prV (i, i))) (Rg.same nD) (fun i y Ha Hb _ s h => ?_) (fun i y Ha o s h => ?_) (by omega) (fun i H8 Ok No hi s8 hD ok no => ?_) (fun H8 ys s8 e8 al => ?_)
    · obtain ⟨t, n, rfl, h⟩ := h
      exact ⟨t, n, rfl, Same.sqT s h⟩
    · obtain ⟨t, n, rfl, h⟩ := h
      exact ⟨t, n, rfl, sqT_put n h⟩
    · refine ⟨rfl, _, rfl, _, rfl, by show 2 ≤ sizeLine; decide, fun t nt => ok rfl _ _ (same_upd nt) ⟨t, fun z => ?_, rfl, tupT upd_same⟩⟩
      obtain ⟨o, ho⟩ := hD
      rw [z, ho] at nt
      cases nt
    obtain ⟨ks, rfl, pr, ek⟩ := al_prs (f := fun i => (i, i)) (al.mono fun i y ⟨t, _, h⟩ => ⟨t, h⟩)
    rw [List.filter_eq_self.mpr (fun _ _ => rfl)] at ek
    have lk : ks.length = m := by
      have := congrArg List.length ek
      rw [List.length_map, List.length_map, List.length_range] at this
      exact this
    refine ⟨en m b, D, ks, rfl, enl.1, enl.2, .inl (.inl e8), pr, by omega, fun x hx => ?_, fun H9 s9 => ?_⟩
    · rw [ek] at hx
      obtain ⟨i, hi, rfl⟩ := List.mem_map.mp hx
      have hi := List.mem_range.mp hi
      have h1 : i < en m b := by
        unfold en
        omega
      have h2 := Nat.mul_le_mul_right (en m b) (show i + 1 ≤ m from hi)
      rw [Nat.succ_mul] at h2
      exact ⟨h1, by show i * en m b + i < 12; omega⟩
    rw [ek, show bitsN (en m b) ((List.range m).map fun i => (i, i)) = sameN m (en m b) by
      unfold bitsN sameN
      rw [List.map_map]
      rfl]
    refine ⟨rfl, _, rfl, ?_⟩
    rw [decide_eq_true rfl]
    refine iteF ?_
    have g9 := g7.then (s8.trans s9)
    have ez9 := (s8.trans s9) _ _ ez7
    have ep9 := (s8.trans s9) _ _ ep7
    clear al pr ek lk s8 s9 e8 nD ez7 ep7 g7
    -- the text
    have z0 : sizeLine = 16777216 := sizeLine_eq
    have y1 : (" relations of " : Str).length = 14 := by decide +kernel
    have y2 : (" modes" : Str).length = 6 := by decide +kernel
    have y3 : (if b = true then (", watched" : Str) else ("" : Str)).length ≤ 9 := by cases b <;> decide +kernel
    have y4 := sz_len (b := b) mm
    have y5 := m_len mm
    refine ⟨_, rfl, Z, _, 1, _, rfl, rfl, .inl (.inl ez9), at1, _, rfl, small_log _ (by omega), _, _, rfl, rfl, by omega, ?_⟩
    refine ⟨_, rfl, _, rfl, small_log _ (by omega), _, _, rfl, rfl, by rw [len_app]; omega, _, _, rfl, rfl, by rw [len_app, len_app]; omega, _, rfl, _, rfl, ?_⟩
    refine ifC (b := b) ?_
    refine ⟨_, _, rfl, rfl, by rw [len_app, len_app, len_app]; omega, ?_⟩
    rw [show (Str.ofString (toString ((2 ^ (m * en m b) : Nat) : Int)) ++ (" relations of " : Str) ++ Str.ofString (toString (m : Int)) ++ (" modes" : Str) ++ (if b = true then (", watched" : Str) else ("" : Str))) = txt m b from rfl]
    clear y1 y2 y3 y4 y5
    have spA9 : SpAt C H9 sp m b := ⟨mm, dx, ep9⟩
    -- str, !=, ==
    refine ⟨_, rfl, sp, dx, _, rfl, ep9, sp, m, b, rfl, spA9, _, rfl, _, rfl, rfl, _, rfl, ?_⟩
    rw [decide_eq_true rfl]
    refine iteF ?_
    refine ⟨_, rfl, _, rfl, _, rfl, rfl, rfl, fun s2 dx2 nx ndx nex => ⟨s2, dx2, m, b, rfl, upd_same, m1, m3, fun H10 k10 e10 => ⟨rfl, ?_⟩⟩⟩
    have s10 := mk_same nx ndx k10
    have ep10 := s10 _ _ ep9
    refine ⟨sp, dx, _, .ref C, rfl, ep10, .base (.ins e10 G.c.cl G.c.ha G.c.hn G.c.htk G.c.hm), G.c.ns, sp, m, b, _, rfl, ⟨mm, dx, ep10⟩, .inl ⟨s2, m, b, rfl, ⟨mm, dx2, e10⟩, _, rfl, ?_⟩⟩
    have eqb : (decide (m = m) && (b == b)) = true := by rw [decide_eq_true rfl, beq_self_eq_true]; rfl
    rw [eqb]
    refine ⟨_, rfl, iteF ?_⟩
    refine ⟨_, rfl, _, rfl, _, rfl, _, rfl, rfl, rfl, fun s3 dx3 nx3 ndx3 nex3 => ⟨s3, dx3, m, !b, rfl, upd_same, m1, m3, fun H11 k11 e11 => ⟨rfl, ?_⟩⟩⟩
    have s11 := mk_same nx3 ndx3 k11
    have ep11 := s11 _ _ ep10
    refine ⟨sp, dx, _, .ref C, rfl, ep11, .base (.ins e11 G.c.cl G.c.ha G.c.hn G.c.htk G.c.hm), G.c.ns, sp, m, b, _, rfl, ⟨mm, dx, ep11⟩, .inl ⟨s3, m, !b, rfl, ⟨mm, dx3, e11⟩, _, rfl, ?_⟩⟩
    have nb : (decide (m = m) && (b == !b)) = false := by cases b <;> (rw [decide_eq_true rfl]; rfl)
    rw [nb]
    refine ⟨_, rfl, iteF ?_⟩
    have g11 := g9.then (s10.trans s11)
    have ez11 := (s10.trans s11) _ _ ez9
    clear nb eqb s10 s11 e10 e11 ep10 k10 k11 ez9 ep9 g9 spA9 nx ndx nex nx3 ndx3 nex3
    have nZ' : Z ≠ a := nZa
    refine ⟨6, rfl, by decide, by decide, ?_⟩
    refine for_rgN (n := 6) (fun i σ H' => ∃ u6 u7 u8 u9 u10 u11, σ = [some (.ref a), some (.int (m : Int)), some (.bl b), some (.ref sp), some (.ref Z), some (.str (txt m b)), u6, u7, u8, u9, u10, u11] ∧ Go a H H' ∧ H' sp = some (.ins C dx (spF m b)) ∧ H' Z = some (.lst [.int (en m b : Nat), .int ((2 ^ (m * en m b) : Nat) : Int)])) ⟨_, _, _, _, _, _, rfl, g11, ep11, ez11⟩ (fun i σ H12 hi hp => ?_) (fun σ H12 hp => ?_)
    · obtain ⟨u6, u7, u8, u9, u10, u11, rfl, g12, ep12, ez12⟩ := hp
      clear g11 ep11 ez11
      have npa : ∀ {H' : Hp}, Die H' a → H' sp = some (.ins C dx (spF m b)) → sp ≠ a := fun d e => d.neT e (by intro xs z; cases z)
      have sz0 : 0 < 2 ^ (m * en m b) := Nat.two_pow_pos _
      refine ⟨_, rfl, _, rfl, Z, _, 1, _, rfl, rfl, .inl (.inl ez12), at1, a, _, rfl, g12.2, sz0, by omega, fun r1 H13 hr1 g13 _ => ?_⟩
      have ez13 := g13.1 _ _ nZ' ez12
      have ep13 := g13.1 _ _ (npa g12.2 ep12) ep12
      refine ⟨_, rfl, _, rfl, Z, _, 1, _, rfl, rfl, .inl (.inl ez13), at1, a, _, rfl, g13.2, sz0, by omega, fun r2 H14 hr2 g14 _ => ?_⟩
      have ez14 := g14.1 _ _ nZ' ez13
      have ep14 := g14.1 _ _ (npa g13.2 ep13) ep13
      have gA := g12.trans (g13.trans g14)
      clear g12 g13 g14 ez12 ez13 ep12 ep13
      refine ⟨_, _, rfl, ?_⟩
      -- the pairs
      refine ⟨_, rfl, Z, _, 0, _, rfl, rfl, .inl (.inl ez14), at0, _, rfl, _, r1, rfl, enl.1, enl.2, by omega, fun H15 l1 k1 s15 n1 e1 pr1 ek1 => ?_⟩
      have ez15 := s15 _ _ ez14
      refine ⟨_, rfl, Z, _, 0, _, rfl, rfl, .inl (.inl ez15), at0, _, rfl, _, r2, rfl, enl.1, enl.2, by omega, fun H16 l2 k2 s16 n2 e2 pr2 ek2 => ?_⟩
      refine ⟨_, _, rfl, ?_⟩
      have n1a := gA.2.ne n1
      have n2a := (gA.then s15).2.ne n2
      have gB := (gA.then s15).then s16
      have e1' := s16 _ _ e1
      have pr1' := Prs.same pr1 s16
      have ez16 := s16 _ _ ez15
      have ep16 := (s15.trans s16) _ _ ep14
      have lk1 : k1.length ≤ 12 := by
        have h1 : (prsOf k1).length = k1.length := List.length_map ..
        rw [← h1, ek1]
        exact prs_len _ _
      have lk2 : k2.length ≤ 12 := by
        have h1 : (prsOf k2).length = k2.length := List.length_map ..
        rw [← h1, ek2]
        exact prs_len _ _
      have sm1 : ∀ x ∈ prsOf k1, x.1 < m ∧ x.2 < en m b := fun x hx => prs_small enl.1 hr1 (ek1 ▸ hx)
      have sm2 : ∀ x ∈ prsOf k2, x.1 < m ∧ x.2 < en m b := fun x hx => prs_small enl.1 hr2 (ek2 ▸ hx)
      have rl1 : (refs k1).length = k1.length := List.length_map ..
      have rl2 : (refs k2).length = k2.length := List.length_map ..
      clear gA s15 s16 n1 n2 e1 pr1 ez14 ez15 ep14
      -- A
      refine ⟨_, rfl, sp, dx, _, rfl, ep16, noF, _, rfl, sp, m, b, r1, rfl, ⟨mm, dx, ep16⟩, hr1, fun H17 l3 k3 s17 sq3 pr3 ek3 => ?_⟩
      refine ⟨_, rfl, l1, _, rfl, .inl ⟨.inl (.inl (s17 _ _ e1')), fun l4 n4 => ?_⟩⟩
      generalize hX : upd H17 l4 _ = H18
      have s18 : Same H17 H18 := by
        rw [← hX]
        exact same_upd n4
      have e18 := (congrFun hX l4).symm.trans upd_same
      clear hX
      refine ⟨.tuple ((prsOf k3).map prD), .tuple ((prsOf k1).map prD), .tup (Same.sqT s18 sq3) (dps_pr (Prs.same pr3 s18)), .tup (tupT e18) (dps_pr (Prs.same pr1' (s17.trans s18))), shaped_prsT, shaped_prsT, _, rfl, ?_⟩
      have eqA : PyData.eqv (.tuple ((prsOf k3).map prD)) (.tuple ((prsOf k1).map prD)) = true := by
        show PyData.eqvAll ((prsOf k3).map prD) ((prsOf k1).map prD) = true
        rw [eqv_prs, ek3, ek1]
        exact decide_eq_true rfl
      rw [eqA]
      refine iteF ?_
      clear eqA sq3 pr3 ek3 e18 n4
      have s68 := s17.trans s18
      have gC := gB.then s68
      have e1C := s68 _ _ e1'
      have e2C := s68 _ _ e2
      have pr1C := Prs.same pr1' s68
      have pr2C := Prs.same pr2 s68
      have ezC := s68 _ _ ez16
      have epC := s68 _ _ ep16
      clear s17 s18 s68 gB e1' e2 pr1' pr2 ez16 ep16
      -- B
      refine ⟨_, rfl, sp, dx, _, rfl, epC, noF, _, rfl, _, rfl, _, rfl, _, _, rfl, .inl ⟨_, .inl (.inl e1C), rfl⟩, a, l1, _, rfl, gC.2, .inl (.inl e1C), n1a, by omega, fun ys H19 p5 pm g19 n5 n5a e5 => ?_⟩
      obtain ⟨k5, rfl, pm5⟩ := perm_back (f := fun q : Addr × Pr => V.ref q.1) pm rfl
      have pr1D := Prs.go pr1C gC.2 g19
      have pr2D := Prs.go pr2C gC.2 g19
      have e1D := g19.1 _ _ n1a e1C
      have e2D := g19.1 _ _ n2a e2C
      have ezD := g19.1 _ _ nZ' ezC
      have epD := g19.1 _ _ (npa gC.2 epC) epC
      have gD := gC.trans g19
      refine ⟨p5, _, rfl, .inl ⟨.inl (.inl e5), fun l6 n6 => ?_⟩⟩
      generalize hX : upd H19 l6 _ = H20
      have s20 : Same H19 H20 := by
        rw [← hX]
        exact same_upd n6
      have e20 := (congrFun hX l6).symm.trans upd_same
      clear hX
      have pmP : (prsOf k5).Perm (prsOf k1) := pm5.map _
      have mP : ∀ x, x ∈ prsOf k5 ↔ x ∈ prsOf k1 := fun x => pmP.mem_iff
      refine ⟨sp, l6, m, b, k5, rfl, ⟨mm, dx, s20 _ _ epD⟩, tupT e20, fun q' hq => Same.sqT s20 (pr1D q' (pm5.mem_iff.mp hq)), ?_, by rw [pm5.length_eq]; omega, fun x hx => sm1 x ((mP x).mp hx), fun H21 s21 => ?_⟩
      · rw [pmP.nodup_iff, ek1]
        exact prs_nodup _ _
      refine ⟨_, rfl, rfl, _, rfl, ?_⟩
      rw [bits_mem mP, ek1, bits_prs (by omega), decide_eq_true rfl]
      refine iteF ?_
      have s91 := s20.trans s21
      have gE := gD.then s91
      have e1E := s91 _ _ e1D
      have e2E := s91 _ _ e2D
      have pr1E := Prs.same pr1D s91
      have pr2E := Prs.same pr2D s91
      have ezE := s91 _ _ ezD
      have epE := s91 _ _ epD
      clear gC e1C e2C pr1C pr2C ezC epC pm pm5 pmP mP g19 n5 n5a e5 pr1D pr2D e1D e2D ezD epD gD n6 s20 e20 s21 s91
      -- either
      refine ⟨_, rfl, sp, dx, _, rfl, epE, noF, _, rfl, _, rfl, sp, m, b, r1, r2, rfl, ⟨mm, dx, epE⟩, hr1, hr2, fun H22 s22 => ?_⟩
      have ezF := s22 _ _ ezE
      refine ⟨_, rfl, Z, _, 0, _, rfl, rfl, .inl (.inl ezF), at0, _, rfl, _, rfl, l1, l2, _, _, rfl, rfl, s22 _ _ e1E, s22 _ _ e2E, by rw [sizeLine_eq]; omega, fun l7 n7 => ?_⟩
      generalize hX : upd H22 l7 _ = H23
      have s23 : Same H22 H23 := by
        rw [← hX]
        exact same_upd n7
      have e23 := (congrFun hX l7).symm.trans upd_same
      clear hX
      refine ⟨en m b, l7, k1 ++ k2, rfl, enl.1, enl.2, .inl (.inl (by rw [e23, show refs (k1 ++ k2) = refs k1 ++ refs k2 from List.map_append])), Prs.app (Prs.same pr1E (s22.trans s23)) (Prs.same pr2E (s22.trans s23)), by rw [List.length_append]; omega, fun x hx => ?_, fun H24 s24 => ?_⟩
      · rw [show prsOf (k1 ++ k2) = prsOf k1 ++ prsOf k2 from List.map_append, List.mem_append, ek1, ek2] at hx
        rcases hx with hx | hx
        · have := (mem_prs enl.1).mp hx
          exact ⟨this.1, this.2.1⟩
        · have := (mem_prs enl.1).mp hx
          exact ⟨this.1, this.2.1⟩
      rw [show prsOf (k1 ++ k2) = prsOf k1 ++ prsOf k2 from List.map_append, bits_app, ek1, ek2, bits_prs (by omega), bits_prs (by omega)]
      refine ⟨rfl, _, rfl, ?_⟩
      rw [show decide (gOr m (en m b) r1 r2 = V.int ((r1 ||| r2 : Nat) : Int)) = true from decide_eq_true rfl]
      refine iteF ?_
      have s94 := s22.trans (s23.trans s24)
      have gG := gE.then s94
      have e1G := s94 _ _ e1E
      have e2G := s94 _ _ e2E
      have pr1G := Prs.same pr1E s94
      have pr2G := Prs.same pr2E s94
      have ezG := s94 _ _ ezE
      have epG := s94 _ _ epE
      clear gE e1E e2E pr1E pr2E ezE epE s22 ezF s23 s24 s94 e23 n7
      -- within
      refine ⟨_, rfl, sp, dx, _, rfl, epG, noF, _, rfl, _, rfl, sp, m, b, r1, r2, rfl, ⟨mm, dx, epG⟩, hr1, hr2, fun H25 s25 => ?_⟩
      refine ⟨_, rfl, _, rfl, _, rfl, l1, l2, k1, k2, rfl, .inl (.inl (s25 _ _ e1G)), .inl (.inl (s25 _ _ e2G)), Prs.same pr1G s25, Prs.same pr2G s25, by omega, by omega, fun H26 s26 => ?_⟩
      refine ⟨_, rfl, rfl, _, rfl, ?_⟩
      have eqW : decide (((prsOf k1).filter fun p => decide (p ∉ prsOf k2)) = []) = decide (r1 ||| r2 = r2) := by
        rw [ek1, ek2]
        exact decide_eq_decide.mpr (within_iff enl.1 (by omega))
      rw [eqW, decide_eq_true rfl]
      refine iteF ?_
      exact ⟨_, _, _, _, _, _, rfl, gG.then (s25.trans s26), (s25.trans s26) _ _ epG, (s25.trans s26) _ _ ezG⟩
    · obtain ⟨u6, u7, u8, u9, u10, u11, rfl, g12, ep12, ez12⟩ := hp
      refine ⟨_, rfl, sp, dx, _, rfl, ep12, noF, Nat.zero_le _, fun t nt => ?_⟩
      generalize hX : upd H12 t _ = H13
      have s13 : Same H12 H13 := by
        rw [← hX]
        exact same_upd nt
      have e13 := (congrFun hX t).symm.trans upd_same
      clear hX
      refine ⟨sp, t, m, b, [], rfl, ⟨mm, dx, s13 _ _ ep12⟩, tupT e13, Prs.nil, List.nodup_nil, by decide, (fun x (hx : x ∈ prsOf []) => nomatch hx), fun H14 s14 => ?_⟩
      refine ⟨rfl, _, rfl, ?_⟩
      rw [show decide (V.int ((bitsN (en m b) (prsOf []) : Nat) : Int) = V.int 0) = true from decide_eq_true rfl]
      refine iteT ?_
      have ep14 := (s13.trans s14) _ _ ep12
      refine ⟨_, rfl, _, rfl, _, rfl, by show 2 ≤ sizeLine; decide, fun t2 nt2 => ?_⟩
      generalize hX : upd H14 t2 _ = H15
      have s15 : Same H14 H15 := by
        rw [← hX]
        exact same_upd nt2
      have e15 := (congrFun hX t2).symm.trans upd_same
      clear hX
      have ep15 := s15 _ _ ep14
      refine ⟨sp, dx, _, .type "tuple", rfl, ep15, ty_tup (tupT e15), G.c.nt, sp, m, b, _, rfl, ⟨mm, dx, ep15⟩, .inr ⟨t2, _, rfl, tupT e15, _, rfl, ?_⟩⟩
      refine ⟨_, rfl, iteT ?_⟩
      refine ⟨_, rfl, sp, dx, _, rfl, ep15, noF, sp, m, b, 0, rfl, ⟨mm, dx, ep15⟩, Nat.two_pow_pos _, fun H16 l8 k8 s16 sq8 pr8 ek8 => ?_⟩
      have k80 : prs (en m b) 0 = [] := by
        unfold prs
        rw [List.filter_eq_nil_iff.mpr fun b _ => by rw [Nat.zero_testBit]; decide]
        rfl
      rw [k80] at ek8
      refine ⟨Nat.zero_le _, fun t3 nt3 => ?_⟩
      generalize hX : upd H16 t3 _ = H17
      have s17 : Same H16 H17 := by
        rw [← hX]
        exact same_upd nt3
      have e17 := (congrFun hX t3).symm.trans upd_same
      clear hX
      refine ⟨.tuple ((prsOf k8).map prD), .tuple [], .tup (Same.sqT s17 sq8) (dps_pr (Prs.same pr8 s17)), .tup (tupT e17) .nil, shaped_prsT, rfl, ?_⟩
      have eqA : PyData.eqv (.tuple ((prsOf k8).map prD)) (.tuple []) = true := by
        rw [ek8]
        rfl
      rw [eqA]
      exact q _ (g12.then (s13.trans (s14.trans (s15.trans (s16.trans s17)))))
end
end SQ

set_option Elab.async false
set_option linter.all false
set_option maxRecDepth 100000
set_option maxHeartbeats 4000000
namespace SQ
open PySem PySem.Spec PyProof.Rows L2
section
variable {P : Program} {w : World} {K : PySem.W.Frag} {mg : Str → Option Value} {base : Heap}
abbrev Nlaw : List Str := ["_law_script", "_law_at", "_law_urn_here", "_law_turn", "_law_told"]
theorem sclaw : FnScope Nlaw ["_law_script"] (defScope slaw) := ⟨rfl, rfl, rfl, by decide +kernel, rfl, by decide +kernel, by decide +kernel⟩
theorem ok_law {f : Addr} {fd : FuncData} (F : Fun K "law" "law" slaw f fd) (T : Nm mg) {C : Addr} (G : SpM P w K mg base C) (Rsize : PrP P w K mg base C "size" "_size") (Mpairs : MCal P w K mg base C 5 "pairs" ["self", "relation"] (spPairsP C K)) (Mrelation : MCal P w K mg base C 4 "relation" ["self", "pairs"] (spRelation C K)) (Cl_urn : Cal P w K mg base 1 "_law_urn" ["_law_script", "_law_at"] (spUrn K)) (Cl_right : Cal P w K mg base 6 "_law_right" ["_law_urn_here"] spRight) : FnOk P w K mg base CX0 7 f fd ["_law_script"] (spLaw K) := by
  have nd := sclaw.nd
  refine F.ok sclaw (fun vs H Q E h => ?_) (fun cdv A outer s H vs Q E hr h => ?_)
  · obtain ⟨a, ns, rfl, sq, hlen, q⟩ := h
    rfl
  · obtain ⟨a, ns, rfl, sq, hlen, q⟩ := h
    skip
    refine ⟨_, (pss_cons (ps_for PassesOwn.never rfl (pi_range1 rfl T.b_range (pa_cons (pe_callB (call_max2 rfl) (by rfl) T.b_max (by decide +kernel) (pa_cons pe_int (pa_cons (pe_callB (call_min2 rfl) (by rfl) T.b_min (by decide +kernel) (pa_cons pe_int (pa_cons (pe_callB call_len (by rfl) T.b_len PySem.boot_len (pa_cons (pv 0) pa_nil)) pa_nil))) pa_nil))) pa_nil)) (pg_name (i := 1) nd rfl (Or.inl rfl))
  (pss_cons (ps_set (i := 2) nd rfl (Or.inl rfl) (pe_own Cl_urn (hr.mono (by decide)) (by rfl) (pa_cons (pv 0) (pa_cons (pv 1) pa_nil))))
  (pss_one (ps_for PassesOwn.never rfl (pi_range1 rfl T.b_range (pa_cons pe_int pa_nil)) (pg_name (i := 3) nd rfl (Or.inl rfl))
  (pss_one (ps_if (pt_not (pt_val (pe_own Cl_right (hr.mono (by decide)) (by rfl) (pa_cons (pv 2) pa_nil))))
  (pss_one (ps_ret pe_bl))
  pss_nil))))))
  (pss_cons (ps_set (i := 4) nd rfl (Or.inl rfl) (pe_lst (pa_cons (pe_pr Rsize G.c.cl (hr.mono (by decide)) (pe_mkW G (hr.mono (by decide)) (by rfl) (pa_cons pe_int pa_nil) (pk_cons pe_bl pk_nil)) rfl) (pa_cons (pe_ix ix_tup (pe_ownM Mpairs G.c.cl (hr.mono (by decide)) (pe_mkS G (hr.mono (by decide)) (by rfl) (pa_cons pe_int pa_nil)) (pa_cons pe_int pa_nil)) (pe_un un_neg pe_int) (fun _ _ => rfl)) (pa_cons (pe_ownM Mrelation G.c.cl (hr.mono (by decide)) (pe_mkW G (hr.mono (by decide)) (by rfl) (pa_cons pe_int pa_nil) (pk_cons pe_bl pk_nil)) (pa_cons (pe_tup (pa_cons (pe_tup (pa_cons pe_int (pa_cons pe_int pa_nil))) (pa_cons (pe_tup (pa_cons pe_int (pa_cons pe_int pa_nil))) pa_nil))) pa_nil)) pa_nil)))))
  (pss_one (ps_ret (pe_and (pe_cmpR (op_eqD hr.units) (pv 4) (pe_lst (pa_cons pe_int (pa_cons (pe_tup (pa_cons pe_int (pa_cons pe_int pa_nil))) (pa_cons pe_int pa_nil)))) (nomark _)) (pe_one (pe_cmpR (op_eqD hr.units) (pe_ownM Mpairs G.c.cl (hr.mono (by decide)) (pe_mkW G (hr.mono (by decide)) (by rfl) (pa_cons pe_int pa_nil) (pk_cons pe_bl pk_nil)) (pa_cons pe_int pa_nil)) (pe_tup (pa_cons (pe_tup (pa_cons pe_int (pa_cons pe_int pa_nil))) (pa_cons (pe_tup (pa_cons pe_int (pa_cons pe_int pa_nil))) pa_nil))) (nomark _)))))))), ?_⟩

    refine ⟨_, rfl, _, _, rfl, .inl ⟨_, sq, rfl⟩, _, _, rfl, _, _, rfl, ?_⟩
    have hl : (ns.map V.int).length = ns.length := List.length_map _
    rw [hl]
    obtain ⟨m, em, hm⟩ : ∃ m : Nat, (if (if ((ns.length : Nat) : Int) < 8 then ((ns.length : Nat) : Int) else 8) > 1 then (if ((ns.length : Nat) : Int) < 8 then ((ns.length : Nat) : Int) else 8) else 1) = (m : Int) ∧ m ≤ 8 := by
      refine ⟨(if (if ((ns.length : Nat) : Int) < 8 then ((ns.length : Nat) : Int) else 8) > 1 then (if ((ns.length : Nat) : Int) < 8 then ((ns.length : Nat) : Int) else 8) else 1).toNat, ?_, ?_⟩ <;> (split <;> split <;> omega)
    rw [em]
    refine ⟨_, rfl, by omega, by omega, for_rgN (n := m) (fun i σ H' => (∃ y1 y2 y3, σ = [some (.ref a), y1, y2, y3, none]) ∧ Same H H') ⟨⟨_, _, _, rfl⟩, .refl H⟩ (fun i σ H1 hi hp => ?_) (fun σ H1 hp => ?_)⟩
    · obtain ⟨⟨y1, y2, y3, rfl⟩, s1⟩ := hp
      refine ⟨_, rfl, _, rfl, a, ns, i, rfl, Same.seq s1 sq, by omega, fun H2 p s2 np dp => ?_⟩
      have np0 : H p = none := Same.none s1 np
      refine ⟨4, rfl, by decide, by decide, ?_⟩
      refine for_rgN (n := 4) (fun j σ H' => (∃ y3, σ = [some (.ref a), some (.int (i : Int)), some (.ref p), y3, none]) ∧ Go p H2 H') ⟨⟨_, rfl⟩, .of dp Same.rfl⟩ (fun j σ H3 hj hp => ?_) (fun σ H3 hp => ?_)
      · obtain ⟨⟨y3, rfl⟩, g3⟩ := hp
        refine ⟨_, rfl, p, rfl, g3.2, fun H4 g4 => ⟨_, rfl, iteF ?_⟩⟩
        exact ⟨⟨_, rfl⟩, g3.trans g4⟩
      · obtain ⟨⟨y3, rfl⟩, g3⟩ := hp
        exact ⟨⟨_, _, _, rfl⟩, fun b o e => g3.1 b o (ne_of_none e np0) (s2 b o (s1 b o e))⟩
    · obtain ⟨⟨y1, y2, y3, rfl⟩, s1⟩ := hp
      refine ⟨rfl, rfl, fun s2 dx2 nx ndx nex => ⟨s2, dx2, 3, true, rfl, upd_same, by decide, by decide, fun H2 k2 e2 => ⟨rfl, ?_⟩⟩⟩
      have sa := mk_same nx ndx k2
      refine ⟨s2, dx2, _, rfl, e2, s2, dx2, _, _, rfl, e2, lk4, ?_⟩
      refine fun s3 dx3 nx3 ndx3 nex3 => ⟨s3, dx3, 3, false, rfl, upd_same, by decide, by decide, fun H3 k3 e3 => ⟨rfl, ?_⟩⟩
      refine ⟨s3, dx3, _, rfl, e3, noF, s3, 3, false, 511, rfl, ⟨by decide, dx3, e3⟩, by decide +kernel, fun H4 l4 k4 s4 sq4 pr4 ek4 => ?_⟩
      have n4 : prs (en 3 false) 511 = [(0, 0), (0, 1), (0, 2), (1, 0), (1, 1), (1, 2), (2, 0), (2, 1), (2, 2)] := by decide +kernel
      rw [n4] at ek4
      have l9 : k4.length = 9 := by
        have := congrArg List.length ek4
        rw [List.length_map] at this
        exact this
      obtain ⟨q8, h8⟩ : ∃ q8, k4[8]? = some q8 := ⟨_, List.getElem?_eq_getElem (by omega)⟩
      have v8 : q8.2 = (2, 2) := by
        have := congrArg (fun l => l[8]?) ek4
        rw [List.getElem?_map, h8] at this
        exact Option.some.inj this
      have rl : (refs k4).length = 9 := by rw [List.length_map, l9]
      have at8 : atI (refs k4) (-1) = some (V.ref q8.1) := by
        have h : (refs k4)[8]? = some (V.ref q8.1) := by rw [List.getElem?_map, h8]; rfl
        unfold atI
        rw [rl]
        exact h
      refine ⟨1, rfl, l4, _, _, _, rfl, rfl, sq4, at8, ?_⟩
      have t8 : SqT K H4 q8.1 (prV (2, 2)) := v8 ▸ pr4 q8 (List.mem_of_getElem? h8)
      refine ⟨rfl, rfl, fun s5 dx5 nx5 ndx5 nex5 => ⟨s5, dx5, 2, true, rfl, upd_same, by decide, by decide, fun H5 k5 e5 => ⟨rfl, ?_⟩⟩⟩
      have sb := mk_same nx5 ndx5 k5
      refine ⟨s5, dx5, _, rfl, e5, noF, by show 2 ≤ sizeLine; decide, fun t1 nt1 => ?_⟩
      generalize hX : upd H5 t1 _ = H6
      have s6 : Same H5 H6 := by
        rw [← hX]
        exact same_upd nt1
      have e6 := (congrFun hX t1).symm.trans upd_same
      clear hX
      refine ⟨by show 2 ≤ sizeLine; decide, fun t2 nt2 => ?_⟩
      generalize hX : upd H6 t2 _ = H7
      have s7 : Same H6 H7 := by
        rw [← hX]
        exact same_upd nt2
      have e7 := (congrFun hX t2).symm.trans upd_same
      clear hX
      refine ⟨by show 2 ≤ sizeLine; decide, fun t3 nt3 => ?_⟩
      generalize hX : upd H7 t3 _ = H8
      have s8 : Same H7 H8 := by
        rw [← hX]
        exact same_upd nt3
      have e8 := (congrFun hX t3).symm.trans upd_same
      clear hX
      refine ⟨s5, t3, 2, true, [(t1, (1, 2)), (t2, (0, 0))], rfl, ⟨by decide, dx5, (s6.trans (s7.trans s8)) _ _ e5⟩, tupT e8, fun q hq => ?_, (show ([(1, 2), (0, 0)] : List Pr).Nodup by decide), (show 2 < 64 by decide), (show ∀ x ∈ ([(1, 2), (0, 0)] : List Pr), x.1 < 2 ∧ x.2 < en 2 true by decide), fun H9 s9 => ?_⟩
      · rcases List.mem_cons.mp hq with rfl | hq
        · exact tupT ((s7.trans s8) _ _ e6)
        · cases List.mem_singleton.mp hq
          exact tupT (s8 _ _ e7)
      rw [show bitsN (en 2 true) (prsOf [(t1, (1, 2)), (t2, (0, 0))]) = 33 from (by decide +kernel : bitsN (en 2 true) [(1, 2), (0, 0)] = 33)]
      refine ⟨by show 3 ≤ sizeLine; decide, fun lA nlA => ?_⟩
      generalize hX : upd H9 lA _ = HA
      have sA : Same H9 HA := by
        rw [← hX]
        exact same_upd nlA
      have eA := (congrFun hX lA).symm.trans upd_same
      clear hX
      have t8A := Same.sqT (sb.trans (s6.trans (s7.trans (s8.trans (s9.trans sA))))) t8
      refine ⟨_, rfl, by show 2 ≤ sizeLine; decide, fun tB ntB => ?_⟩
      generalize hX : upd HA tB _ = HB
      have sB : Same HA HB := by
        rw [← hX]
        exact same_upd ntB
      have eB := (congrFun hX tB).symm.trans upd_same
      clear hX
      refine ⟨by show 3 ≤ sizeLine; decide, fun lC nlC => ?_⟩
      generalize hX : upd HB lC _ = HC
      have sC : Same HB HC := by
        rw [← hX]
        exact same_upd nlC
      have eC := (congrFun hX lC).symm.trans upd_same
      clear hX
      refine ⟨.list [.int 4096, prD (2, 2), .int 33], .list [.int 4096, prD (2, 2), .int 33], .lst (.inl (.inl ((sB.trans sC) _ _ eA))) (.cons (.int _) (.cons (dp_pr (Same.sqT (sB.trans sC) t8A)) (.cons (.int _) .nil))), .lst (.inl (.inl eC)) (.cons (.int _) (.cons (dp_pr (tupT (sC _ _ eB))) (.cons (.int _) .nil))), rfl, rfl, ?_⟩
      rw [SeqAt.eqv_refl _ (by rfl)]
      refine ⟨_, rfl, iteT ?_⟩
      refine ⟨rfl, rfl, fun s10 dx10 nx10 ndx10 nex10 => ⟨s10, dx10, 1, true, rfl, upd_same, by decide, by decide, fun HD k10 e10 => ⟨rfl, ?_⟩⟩⟩
      refine ⟨s10, dx10, _, rfl, e10, noF, s10, 1, true, 3, rfl, ⟨by decide, dx10, e10⟩, by decide +kernel, fun HE lE kE sE sqE prE ekE => ?_⟩
      have nE : prs (en 1 true) 3 = [(0, 0), (0, 1)] := by decide +kernel
      rw [nE] at ekE
      refine ⟨by show 2 ≤ sizeLine; decide, fun tF ntF => ?_⟩
      generalize hX : upd HE tF _ = HF
      have sF : Same HE HF := by
        rw [← hX]
        exact same_upd ntF
      have eF := (congrFun hX tF).symm.trans upd_same
      clear hX
      refine ⟨by show 2 ≤ sizeLine; decide, fun tG ntG => ?_⟩
      generalize hX : upd HF tG _ = HG
      have sG : Same HF HG := by
        rw [← hX]
        exact same_upd ntG
      have eG := (congrFun hX tG).symm.trans upd_same
      clear hX
      refine ⟨by show 2 ≤ sizeLine; decide, fun tH ntH => ?_⟩
      generalize hX : upd HG tH _ = HH
      have sH : Same HG HH := by
        rw [← hX]
        exact same_upd ntH
      have eH := (congrFun hX tH).symm.trans upd_same
      clear hX
      refine ⟨.tuple ((prsOf kE).map prD), .tuple [prD (0, 0), prD (0, 1)], .tup (Same.sqT (sF.trans (sG.trans sH)) sqE) (dps_pr (Prs.same prE (sF.trans (sG.trans sH)))), .tup (tupT eH) (.cons (dp_pr (tupT ((sG.trans sH) _ _ eF))) (.cons (dp_pr (tupT (sH _ _ eG))) .nil)), shaped_prsT, rfl, ?_⟩
      rw [ekE]
      exact q _
end
end SQ

set_option Elab.async false
set_option linter.all false
set_option maxRecDepth 100000
set_option maxHeartbeats 8000000
namespace SQ
open PySem PySem.Spec PyProof.Rows L2
theorem all_mk {l : PySem.W.OpenLaw} {w : World} {K : PySem.W.Frag} {h : Heap} {mg : Str → Option Value} {fa C f1 f2 f3 f4 f5 f6 f7 f8 f9 f10 f11 f12 f13 f14 f15 f16 f17 f18 f19 f20 f21 f22 f23 f24 f25 f26 f27 p13 p14 p15 p16 p17 kD18 : Addr} (X : K.In h) (G : h.Ns mainGlobals mg) (hfa : mg "law" = some (.ref fa))
    {od1 an1 od2 an2 od3 an3 od4 an4 od5 an5 od6 an6 od7 an7 od8 an8 od9 an9 od10 an10 od11 an11 od12 an12 od13 an13 od14 an14 od15 an15 od16 an16 od17 an17 od18 an18 od19 an19 od20 an20 od21 an21 od22 an22 od23 an23 od24 an24 od25 an25 od26 an26 od27 an27 : Option Addr} {sl1 sl2 sl3 sl4 sl5 sl6 sl7 sl8 sl9 sl10 sl11 sl12 sl13 sl14 sl15 sl16 sl17 sl18 sl19 sl20 sl21 sl22 sl23 sl24 sl25 sl26 sl27 : Array (Option Value)} {oc1 dc1 pm1 cd1 ct1 kV1 oc2 dc2 pm2 cd2 ct2 kV2 oc3 dc3 pm3 cd3 ct3 kV3 oc4 dc4 pm4 cd4 ct4 kV4 oc5 dc5 pm5 cd5 ct5 kV5 oc6 dc6 pm6 cd6 ct6 kV6 oc7 dc7 pm7 cd7 ct7 kV7 oc8 dc8 pm8 cd8 ct8 kV8 oc9 dc9 pm9 cd9 ct9 kV9 oc10 dc10 pm10 cd10 ct10 kV10 oc11 dc11 pm11 cd11 ct11 kV11 oc12 dc12 pm12 cd12 ct12 kV12 oc13 dc13 pm13 cd13 ct13 kV13 oc14 dc14 pm14 cd14 ct14 kV14 oc15 dc15 pm15 cd15 ct15 kV15 oc16 dc16 pm16 cd16 ct16 kV16 oc17 dc17 pm17 cd17 ct17 kV17 oc18 dc18 pm18 cd18 ct18 oc19 dc19 pm19 cd19 ct19 kV19 oc20 dc20 pm20 cd20 ct20 kV20 oc21 dc21 pm21 cd21 ct21 kV21 oc22 dc22 pm22 cd22 ct22 kV22 oc23 dc23 pm23 cd23 ct23 kV23 oc24 dc24 pm24 cd24 ct24 kV24 oc25 dc25 pm25 cd25 ct25 kV25 oc26 dc26 pm26 cd26 ct26 kV26 oc27 dc27 pm27 cd27 ct27 kV27 : Value}
    {t_MAX_MODES : Tok} {rp13 rp14 rp15 rp16 rp17 : List Value}
    (a1 : PySem.W.nsIn K mainGlobals "is_integer_in" = some (some (.ref f1)))
    (l1 : K.lookup f1 = some ⟨oc1, od1, .func (PySem.W.fnOf "is_integer_in" "is_integer_in" (defArgs sis_integer_in) (defBody sis_integer_in) (defScope sis_integer_in) .none kV1 dc1 pm1 an1 cd1 ct1), sl1⟩)
    (c1 : PySem.W.codeIn K cd1 "is_integer_in" = true)
    (k1 : PySem.W.keepIn K (.ref f1) = true)
    (a2 : PySem.W.nsIn K mainGlobals "pairs_of" = some (some (.ref f2)))
    (l2 : K.lookup f2 = some ⟨oc2, od2, .func (PySem.W.fnOf "pairs_of" "pairs_of" (defArgs spairs_of) (defBody spairs_of) (defScope spairs_of) .none kV2 dc2 pm2 an2 cd2 ct2), sl2⟩)
    (c2 : PySem.W.codeIn K cd2 "pairs_of" = true)
    (k2 : PySem.W.keepIn K (.ref f2) = true)
    (a3 : PySem.W.nsIn K mainGlobals "same_of" = some (some (.ref f3)))
    (l3 : K.lookup f3 = some ⟨oc3, od3, .func (PySem.W.fnOf "same_of" "same_of" (defArgs ssame_of) (defBody ssame_of) (defScope ssame_of) .none kV3 dc3 pm3 an3 cd3 ct3), sl3⟩)
    (c3 : PySem.W.codeIn K cd3 "same_of" = true)
    (k3 : PySem.W.keepIn K (.ref f3) = true)
    (a4 : PySem.W.nsIn K mainGlobals "_law_urn" = some (some (.ref f4)))
    (l4 : K.lookup f4 = some ⟨oc4, od4, .func (PySem.W.fnOf "_law_urn" "_law_urn" (defArgs s_law_urn) (defBody s_law_urn) (defScope s_law_urn) .none kV4 dc4 pm4 an4 cd4 ct4), sl4⟩)
    (c4 : PySem.W.codeIn K cd4 "_law_urn" = true)
    (k4 : PySem.W.keepIn K (.ref f4) = true)
    (a5 : PySem.W.nsIn K mainGlobals "_law_take" = some (some (.ref f5)))
    (l5 : K.lookup f5 = some ⟨oc5, od5, .func (PySem.W.fnOf "_law_take" "_law_take" (defArgs s_law_take) (defBody s_law_take) (defScope s_law_take) .none kV5 dc5 pm5 an5 cd5 ct5), sl5⟩)
    (c5 : PySem.W.codeIn K cd5 "_law_take" = true)
    (k5 : PySem.W.keepIn K (.ref f5) = true)
    (a6 : PySem.W.nsIn K mainGlobals "_law_some" = some (some (.ref f6)))
    (l6 : K.lookup f6 = some ⟨oc6, od6, .func (PySem.W.fnOf "_law_some" "_law_some" (defArgs s_law_some) (defBody s_law_some) (defScope s_law_some) .none kV6 dc6 pm6 an6 cd6 ct6), sl6⟩)
    (c6 : PySem.W.codeIn K cd6 "_law_some" = true)
    (k6 : PySem.W.keepIn K (.ref f6) = true)
    (a7 : PySem.W.nsIn K mainGlobals "_law_pairs" = some (some (.ref f7)))
    (l7 : K.lookup f7 = some ⟨oc7, od7, .func (PySem.W.fnOf "_law_pairs" "_law_pairs" (defArgs s_law_pairs) (defBody s_law_pairs) (defScope s_law_pairs) .none kV7 dc7 pm7 an7 cd7 ct7), sl7⟩)
    (c7 : PySem.W.codeIn K cd7 "_law_pairs" = true)
    (k7 : PySem.W.keepIn K (.ref f7) = true)
    (a8 : PySem.W.nsIn K mainGlobals "_law_bits" = some (some (.ref f8)))
    (l8 : K.lookup f8 = some ⟨oc8, od8, .func (PySem.W.fnOf "_law_bits" "_law_bits" (defArgs s_law_bits) (defBody s_law_bits) (defScope s_law_bits) .none kV8 dc8 pm8 an8 cd8 ct8), sl8⟩)
    (c8 : PySem.W.codeIn K cd8 "_law_bits" = true)
    (k8 : PySem.W.keepIn K (.ref f8) = true)
    (a9 : PySem.W.nsIn K mainGlobals "_law_within" = some (some (.ref f9)))
    (l9 : K.lookup f9 = some ⟨oc9, od9, .func (PySem.W.fnOf "_law_within" "_law_within" (defArgs s_law_within) (defBody s_law_within) (defScope s_law_within) .none kV9 dc9 pm9 an9 cd9 ct9), sl9⟩)
    (c9 : PySem.W.codeIn K cd9 "_law_within" = true)
    (k9 : PySem.W.keepIn K (.ref f9) = true)
    (a10 : PySem.W.nsIn K mainGlobals "_law_sizes" = some (some (.ref f10)))
    (l10 : K.lookup f10 = some ⟨oc10, od10, .func (PySem.W.fnOf "_law_sizes" "_law_sizes" (defArgs s_law_sizes) (defBody s_law_sizes) (defScope s_law_sizes) .none kV10 dc10 pm10 an10 cd10 ct10), sl10⟩)
    (c10 : PySem.W.codeIn K cd10 "_law_sizes" = true)
    (k10 : PySem.W.keepIn K (.ref f10) = true)
    (a11 : PySem.W.nsIn K mainGlobals "_law_right" = some (some (.ref f11)))
    (l11 : K.lookup f11 = some ⟨oc11, od11, .func (PySem.W.fnOf "_law_right" "_law_right" (defArgs s_law_right) (defBody s_law_right) (defScope s_law_right) .none kV11 dc11 pm11 an11 cd11 ct11), sl11⟩)
    (c11 : PySem.W.codeIn K cd11 "_law_right" = true)
    (k11 : PySem.W.keepIn K (.ref f11) = true)
    (a12 : PySem.W.nsIn K mainGlobals "law" = some (some (.ref f12)))
    (l12 : K.lookup f12 = some ⟨oc12, od12, .func (PySem.W.fnOf "law" "law" (defArgs slaw) (defBody slaw) (defScope slaw) .none kV12 dc12 pm12 an12 cd12 ct12), sl12⟩)
    (c12 : PySem.W.codeIn K cd12 "law" = true)
    (k12 : PySem.W.keepIn K (.ref f12) = true)
    (pa13 : PySem.W.findIn K (.ref C) "modes" = some (some (.ref p13)))
    (pg13 : PySem.W.specialIn K (.ref p13) "__get__" = some (some (.builtin "property.__get__")))
    (pt13 : PySem.W.takesIn K (.ref p13) = some true)
    (pr13 : PySem.W.recIn K p13 "property" = some (.ref f13 :: rp13))
    (l13 : K.lookup f13 = some ⟨oc13, od13, .func (PySem.W.fnOf "modes" "Space.modes" (defArgs sSpacemodes) (defBody sSpacemodes) (defScope sSpacemodes) .none kV13 dc13 pm13 an13 cd13 ct13), sl13⟩)
    (c13 : PySem.W.codeIn K cd13 "Space.modes" = true)
    (k13 : PySem.W.keepIn K (.ref f13) = true)
    (pa14 : PySem.W.findIn K (.ref C) "watched" = some (some (.ref p14)))
    (pg14 : PySem.W.specialIn K (.ref p14) "__get__" = some (some (.builtin "property.__get__")))
    (pt14 : PySem.W.takesIn K (.ref p14) = some true)
    (pr14 : PySem.W.recIn K p14 "property" = some (.ref f14 :: rp14))
    (l14 : K.lookup f14 = some ⟨oc14, od14, .func (PySem.W.fnOf "watched" "Space.watched" (defArgs sSpacewatched) (defBody sSpacewatched) (defScope sSpacewatched) .none kV14 dc14 pm14 an14 cd14 ct14), sl14⟩)
    (c14 : PySem.W.codeIn K cd14 "Space.watched" = true)
    (k14 : PySem.W.keepIn K (.ref f14) = true)
    (pa15 : PySem.W.findIn K (.ref C) "ends" = some (some (.ref p15)))
    (pg15 : PySem.W.specialIn K (.ref p15) "__get__" = some (some (.builtin "property.__get__")))
    (pt15 : PySem.W.takesIn K (.ref p15) = some true)
    (pr15 : PySem.W.recIn K p15 "property" = some (.ref f15 :: rp15))
    (l15 : K.lookup f15 = some ⟨oc15, od15, .func (PySem.W.fnOf "ends" "Space.ends" (defArgs sSpaceends) (defBody sSpaceends) (defScope sSpaceends) .none kV15 dc15 pm15 an15 cd15 ct15), sl15⟩)
    (c15 : PySem.W.codeIn K cd15 "Space.ends" = true)
    (k15 : PySem.W.keepIn K (.ref f15) = true)
    (pa16 : PySem.W.findIn K (.ref C) "size" = some (some (.ref p16)))
    (pg16 : PySem.W.specialIn K (.ref p16) "__get__" = some (some (.builtin "property.__get__")))
    (pt16 : PySem.W.takesIn K (.ref p16) = some true)
    (pr16 : PySem.W.recIn K p16 "property" = some (.ref f16 :: rp16))
    (l16 : K.lookup f16 = some ⟨oc16, od16, .func (PySem.W.fnOf "size" "Space.size" (defArgs sSpacesize) (defBody sSpacesize) (defScope sSpacesize) .none kV16 dc16 pm16 an16 cd16 ct16), sl16⟩)
    (c16 : PySem.W.codeIn K cd16 "Space.size" = true)
    (k16 : PySem.W.keepIn K (.ref f16) = true)
    (pa17 : PySem.W.findIn K (.ref C) "same" = some (some (.ref p17)))
    (pg17 : PySem.W.specialIn K (.ref p17) "__get__" = some (some (.builtin "property.__get__")))
    (pt17 : PySem.W.takesIn K (.ref p17) = some true)
    (pr17 : PySem.W.recIn K p17 "property" = some (.ref f17 :: rp17))
    (l17 : K.lookup f17 = some ⟨oc17, od17, .func (PySem.W.fnOf "same" "Space.same" (defArgs sSpacesame) (defBody sSpacesame) (defScope sSpacesame) .none kV17 dc17 pm17 an17 cd17 ct17), sl17⟩)
    (c17 : PySem.W.codeIn K cd17 "Space.same" = true)
    (k17 : PySem.W.keepIn K (.ref f17) = true)
    (a18 : PySem.W.findIn K (.ref C) "__init__" = some (some (.ref f18)))
    (i18 : PySem.W.isFn K (.ref f18) = true)
    (l18 : K.lookup f18 = some ⟨oc18, od18, .func (PySem.W.fnOf "__init__" "Space.__init__" (defArgs sSpace__init__) (defBody sSpace__init__) (defScope sSpace__init__) .none (.ref kD18) dc18 pm18 an18 cd18 ct18), sl18⟩)
    (c18 : PySem.W.codeIn K cd18 "Space.__init__" = true)
    (k18 : PySem.W.keepIn K (.ref f18) = true)
    (w18_0 : PySem.W.nsIn K kD18 "watched" = some (some (.bool false)))
    (a19 : PySem.W.findIn K (.ref C) "pairs" = some (some (.ref f19)))
    (i19 : PySem.W.isFn K (.ref f19) = true)
    (l19 : K.lookup f19 = some ⟨oc19, od19, .func (PySem.W.fnOf "pairs" "Space.pairs" (defArgs sSpacepairs) (defBody sSpacepairs) (defScope sSpacepairs) .none kV19 dc19 pm19 an19 cd19 ct19), sl19⟩)
    (c19 : PySem.W.codeIn K cd19 "Space.pairs" = true)
    (k19 : PySem.W.keepIn K (.ref f19) = true)
    (a20 : PySem.W.findIn K (.ref C) "relation" = some (some (.ref f20)))
    (i20 : PySem.W.isFn K (.ref f20) = true)
    (l20 : K.lookup f20 = some ⟨oc20, od20, .func (PySem.W.fnOf "relation" "Space.relation" (defArgs sSpacerelation) (defBody sSpacerelation) (defScope sSpacerelation) .none kV20 dc20 pm20 an20 cd20 ct20), sl20⟩)
    (c20 : PySem.W.codeIn K cd20 "Space.relation" = true)
    (k20 : PySem.W.keepIn K (.ref f20) = true)
    (a21 : PySem.W.findIn K (.ref C) "either" = some (some (.ref f21)))
    (i21 : PySem.W.isFn K (.ref f21) = true)
    (l21 : K.lookup f21 = some ⟨oc21, od21, .func (PySem.W.fnOf "either" "Space.either" (defArgs sSpaceeither) (defBody sSpaceeither) (defScope sSpaceeither) .none kV21 dc21 pm21 an21 cd21 ct21), sl21⟩)
    (c21 : PySem.W.codeIn K cd21 "Space.either" = true)
    (k21 : PySem.W.keepIn K (.ref f21) = true)
    (a22 : PySem.W.findIn K (.ref C) "is_within" = some (some (.ref f22)))
    (i22 : PySem.W.isFn K (.ref f22) = true)
    (l22 : K.lookup f22 = some ⟨oc22, od22, .func (PySem.W.fnOf "is_within" "Space.is_within" (defArgs sSpaceis_within) (defBody sSpaceis_within) (defScope sSpaceis_within) .none kV22 dc22 pm22 an22 cd22 ct22), sl22⟩)
    (c22 : PySem.W.codeIn K cd22 "Space.is_within" = true)
    (k22 : PySem.W.keepIn K (.ref f22) = true)
    (a23 : PySem.W.findIn K (.ref C) "_is_relation" = some (some (.ref f23)))
    (i23 : PySem.W.isFn K (.ref f23) = true)
    (l23 : K.lookup f23 = some ⟨oc23, od23, .func (PySem.W.fnOf "_is_relation" "Space._is_relation" (defArgs sSpace_is_relation) (defBody sSpace_is_relation) (defScope sSpace_is_relation) .none kV23 dc23 pm23 an23 cd23 ct23), sl23⟩)
    (c23 : PySem.W.codeIn K cd23 "Space._is_relation" = true)
    (k23 : PySem.W.keepIn K (.ref f23) = true)
    (a24 : PySem.W.findIn K (.ref C) "_is_pair" = some (some (.ref f24)))
    (i24 : PySem.W.isFn K (.ref f24) = true)
    (l24 : K.lookup f24 = some ⟨oc24, od24, .func (PySem.W.fnOf "_is_pair" "Space._is_pair" (defArgs sSpace_is_pair) (defBody sSpace_is_pair) (defScope sSpace_is_pair) .none kV24 dc24 pm24 an24 cd24 ct24), sl24⟩)
    (c24 : PySem.W.codeIn K cd24 "Space._is_pair" = true)
    (k24 : PySem.W.keepIn K (.ref f24) = true)
    (a25 : PySem.W.findIn K (.ref C) "_check_relation" = some (some (.ref f25)))
    (i25 : PySem.W.isFn K (.ref f25) = true)
    (l25 : K.lookup f25 = some ⟨oc25, od25, .func (PySem.W.fnOf "_check_relation" "Space._check_relation" (defArgs sSpace_check_relation) (defBody sSpace_check_relation) (defScope sSpace_check_relation) .none kV25 dc25 pm25 an25 cd25 ct25), sl25⟩)
    (c25 : PySem.W.codeIn K cd25 "Space._check_relation" = true)
    (k25 : PySem.W.keepIn K (.ref f25) = true)
    (a26 : PySem.W.findIn K (.ref C) "__eq__" = some (some (.ref f26)))
    (i26 : PySem.W.isFn K (.ref f26) = true)
    (l26 : K.lookup f26 = some ⟨oc26, od26, .func (PySem.W.fnOf "__eq__" "Space.__eq__" (defArgs sSpace__eq__) (defBody sSpace__eq__) (defScope sSpace__eq__) .none kV26 dc26 pm26 an26 cd26 ct26), sl26⟩)
    (c26 : PySem.W.codeIn K cd26 "Space.__eq__" = true)
    (k26 : PySem.W.keepIn K (.ref f26) = true)
    (a27 : PySem.W.findIn K (.ref C) "__str__" = some (some (.ref f27)))
    (i27 : PySem.W.isFn K (.ref f27) = true)
    (l27 : K.lookup f27 = some ⟨oc27, od27, .func (PySem.W.fnOf "__str__" "Space.__str__" (defArgs sSpace__str__) (defBody sSpace__str__) (defScope sSpace__str__) .none kV27 dc27 pm27 an27 cd27 ct27), sl27⟩)
    (c27 : PySem.W.codeIn K cd27 "Space.__str__" = true)
    (k27 : PySem.W.keepIn K (.ref f27) = true)
    (z_isinstance : PySem.W.nsIn K mainGlobals "isinstance" = some none)
    (z_int : PySem.W.nsIn K mainGlobals "int" = some none)
    (z_bool : PySem.W.nsIn K mainGlobals "bool" = some none)
    (z_str : PySem.W.nsIn K mainGlobals "str" = some none)
    (z_tuple : PySem.W.nsIn K mainGlobals "tuple" = some none)
    (z_list : PySem.W.nsIn K mainGlobals "list" = some none)
    (z_len : PySem.W.nsIn K mainGlobals "len" = some none)
    (z_all : PySem.W.nsIn K mainGlobals "all" = some none)
    (z_sum : PySem.W.nsIn K mainGlobals "sum" = some none)
    (z_set : PySem.W.nsIn K mainGlobals "set" = some none)
    (z_range : PySem.W.nsIn K mainGlobals "range" = some none)
    (z_abs : PySem.W.nsIn K mainGlobals "abs" = some none)
    (z_max : PySem.W.nsIn K mainGlobals "max" = some none)
    (z_min : PySem.W.nsIn K mainGlobals "min" = some none)
    (z_sorted : PySem.W.nsIn K mainGlobals "sorted" = some none)
    (z_divmod : PySem.W.nsIn K mainGlobals "divmod" = some none)
    (z_repr : PySem.W.nsIn K mainGlobals "repr" = some none)
    (z_zip : PySem.W.nsIn K mainGlobals "zip" = some none)
    (y_MAX_MODES : PySem.W.nsIn K mainGlobals "MAX_MODES" = some (some (.int 3 t_MAX_MODES)))
    (aC : PySem.W.nsIn K mainGlobals "Space" = some (some (.ref C)))
    (qpg : PySem.W.plainGet K C Str.empty = true)
    (qhd : PySem.W.hasDictIn K C = true)
    (qpo : PySem.W.plainOver K C = true)
    (qsa : PySem.W.findIn K (.ref C) "__setattr__" = some (some (.builtin "object.__setattr__")))
    (qmk : PySem.W.makesIn K C = true)
    (qkc : PySem.W.keepIn K (.ref C) = true)
    (n_modes : PySem.W.findIn K (.ref C) "_modes" = some none)
    (n_watched : PySem.W.findIn K (.ref C) "_watched" = some none)
    (n_ends : PySem.W.findIn K (.ref C) "_ends" = some none)
    (n_size : PySem.W.findIn K (.ref C) "_size" = some none)
    (n_same : PySem.W.findIn K (.ref C) "_same" = some none)
    (qha : PySem.W.findIn K (.ref C) "__class__" = some (some (.builtin "object.__class__")))
    (qhn : PySem.W.specialIn K (.builtin "object.__class__") "__get__" = some (some (.builtin "getset_descriptor.__get__")))
    (qht : PySem.W.takesIn K (.builtin "object.__class__") = some true)
    (qhm : PySem.W.mroIn K C (.type "object") = some true)
    (qis : PySem.W.isClsIn K C = true)
    (qty : PySem.W.typeIn K (.ref C) = some (.type "type"))
    (qne : PySem.W.findIn K (.ref C) "__ne__" = some (some (.builtin "object.__ne__")))
    (u_tuple : PySem.W.subIn K (.type "tuple") (.ref C) = some false)
    (v_tuple : PySem.W.notFirst K C (.type "tuple") = true)
    (v_self : PySem.W.notFirst K C (.ref C) = true)
    : ∃ fd : FuncData, (∀ (s : Shared) (v : Value), BindsTo s fd ⟨[v], []⟩ [("_law_script", v)]) ∧ ∀ base : Heap, K.In base → base.Ns mainGlobals mg → FnOk l.prog w K mg base CX0 7 fa fd ["_law_script"] (spLaw K) := by
  have e := hfa.symm.trans (PySem.W.mg_of X G a12)
  cases e
  have T : Nm mg := ⟨PySem.W.mg_none_of X G z_isinstance, PySem.W.mg_none_of X G z_int, PySem.W.mg_none_of X G z_bool, PySem.W.mg_none_of X G z_str, PySem.W.mg_none_of X G z_tuple, PySem.W.mg_none_of X G z_list, PySem.W.mg_none_of X G z_len, PySem.W.mg_none_of X G z_all, PySem.W.mg_none_of X G z_sum, PySem.W.mg_none_of X G z_set, PySem.W.mg_none_of X G z_range, PySem.W.mg_none_of X G z_abs, PySem.W.mg_none_of X G z_max, PySem.W.mg_none_of X G z_min, PySem.W.mg_none_of X G z_sorted, PySem.W.mg_none_of X G z_divmod, PySem.W.mg_none_of X G z_repr, PySem.W.mg_none_of X G z_zip, ⟨_, PySem.W.mg_of X G y_MAX_MODES⟩⟩
  have F1 := fun_mk (st := sis_integer_in) l1 c1 k1
  have b1 := F1.binds (ps := ["value", "least", "greatest"]) fun _ _ _ _ _ _ us hl => match us, hl with | [_, _, _], _ => rfl
  have F2 := fun_mk (st := spairs_of) l2 c2 k2
  have b2 := F2.binds (ps := ["relation", "modes", "ends"]) fun _ _ _ _ _ _ us hl => match us, hl with | [_, _, _], _ => rfl
  have F3 := fun_mk (st := ssame_of) l3 c3 k3
  have b3 := F3.binds (ps := ["modes", "ends"]) fun _ _ _ _ _ _ us hl => match us, hl with | [_, _], _ => rfl
  have F4 := fun_mk (st := s_law_urn) l4 c4 k4
  have b4 := F4.binds (ps := ["_law_script", "_law_at"]) fun _ _ _ _ _ _ us hl => match us, hl with | [_, _], _ => rfl
  have F5 := fun_mk (st := s_law_take) l5 c5 k5
  have b5 := F5.binds (ps := ["_law_urn_here", "_law_total"]) fun _ _ _ _ _ _ us hl => match us, hl with | [_, _], _ => rfl
  have F6 := fun_mk (st := s_law_some) l6 c6 k6
  have b6 := F6.binds (ps := ["_law_urn_here", "_law_items", "_law_lots"]) fun _ _ _ _ _ _ us hl => match us, hl with | [_, _, _], _ => rfl
  have F7 := fun_mk (st := s_law_pairs) l7 c7 k7
  have b7 := F7.binds (ps := ["_law_ends_here", "_law_relation"]) fun _ _ _ _ _ _ us hl => match us, hl with | [_, _], _ => rfl
  have F8 := fun_mk (st := s_law_bits) l8 c8 k8
  have b8 := F8.binds (ps := ["_law_ends_here", "_law_pairs_here"]) fun _ _ _ _ _ _ us hl => match us, hl with | [_, _], _ => rfl
  have F9 := fun_mk (st := s_law_within) l9 c9 k9
  have b9 := F9.binds (ps := ["_law_one_here", "_law_other"]) fun _ _ _ _ _ _ us hl => match us, hl with | [_, _], _ => rfl
  have F10 := fun_mk (st := s_law_sizes) l10 c10 k10
  have b10 := F10.binds (ps := ["_law_modes", "_law_watched"]) fun _ _ _ _ _ _ us hl => match us, hl with | [_, _], _ => rfl
  have F11 := fun_mk (st := s_law_right) l11 c11 k11
  have b11 := F11.binds (ps := ["_law_urn_here"]) fun _ _ _ _ _ _ us hl => match us, hl with | [_], _ => rfl
  have F12 := fun_mk (st := slaw) l12 c12 k12
  have b12 := F12.binds (ps := ["_law_script"]) fun _ _ _ _ _ _ us hl => match us, hl with | [_], _ => rfl
  have F13 := fun_mk (st := sSpacemodes) l13 c13 k13
  have b13 := F13.binds (ps := ["self"]) fun _ _ _ _ _ _ us hl => match us, hl with | [_], _ => rfl
  have F14 := fun_mk (st := sSpacewatched) l14 c14 k14
  have b14 := F14.binds (ps := ["self"]) fun _ _ _ _ _ _ us hl => match us, hl with | [_], _ => rfl
  have F15 := fun_mk (st := sSpaceends) l15 c15 k15
  have b15 := F15.binds (ps := ["self"]) fun _ _ _ _ _ _ us hl => match us, hl with | [_], _ => rfl
  have F16 := fun_mk (st := sSpacesize) l16 c16 k16
  have b16 := F16.binds (ps := ["self"]) fun _ _ _ _ _ _ us hl => match us, hl with | [_], _ => rfl
  have F17 := fun_mk (st := sSpacesame) l17 c17 k17
  have b17 := F17.binds (ps := ["self"]) fun _ _ _ _ _ _ us hl => match us, hl with | [_], _ => rfl
  have F18 : FunD K "__init__" "Space.__init__" (defArgs sSpace__init__) (defBody sSpace__init__) (defScope sSpace__init__) [] [("watched", .bl false)] f18 _ := ⟨⟨_, _, _, _, _, _, _, _, _, _, rfl, l18, c18, .inl ⟨rfl, rfl⟩, .inr ⟨_, rfl, fun q hq => by
    cases List.mem_singleton.mp hq
    exact ⟨_, w18_0, rfl⟩⟩⟩, k18⟩
  have F19 := fun_mk (st := sSpacepairs) l19 c19 k19
  have b19 := F19.binds (ps := ["self", "relation"]) fun _ _ _ _ _ _ us hl => match us, hl with | [_, _], _ => rfl
  have F20 := fun_mk (st := sSpacerelation) l20 c20 k20
  have b20 := F20.binds (ps := ["self", "pairs"]) fun _ _ _ _ _ _ us hl => match us, hl with | [_, _], _ => rfl
  have F21 := fun_mk (st := sSpaceeither) l21 c21 k21
  have b21 := F21.binds (ps := ["self", "one", "other"]) fun _ _ _ _ _ _ us hl => match us, hl with | [_, _, _], _ => rfl
  have F22 := fun_mk (st := sSpaceis_within) l22 c22 k22
  have b22 := F22.binds (ps := ["self", "one", "other"]) fun _ _ _ _ _ _ us hl => match us, hl with | [_, _, _], _ => rfl
  have F23 := fun_mk (st := sSpace_is_relation) l23 c23 k23
  have b23 := F23.binds (ps := ["self", "value"]) fun _ _ _ _ _ _ us hl => match us, hl with | [_, _], _ => rfl
  have F24 := fun_mk (st := sSpace_is_pair) l24 c24 k24
  have b24 := F24.binds (ps := ["self", "value"]) fun _ _ _ _ _ _ us hl => match us, hl with | [_, _], _ => rfl
  have F25 := fun_mk (st := sSpace_check_relation) l25 c25 k25
  have b25 := F25.binds (ps := ["self", "value"]) fun _ _ _ _ _ _ us hl => match us, hl with | [_, _], _ => rfl
  have F26 := fun_mk (st := sSpace__eq__) l26 c26 k26
  have b26 := F26.binds (ps := ["self", "other"]) fun _ _ _ _ _ _ us hl => match us, hl with | [_, _], _ => rfl
  have F27 := fun_mk (st := sSpace__str__) l27 c27 k27
  have b27 := F27.binds (ps := ["self"]) fun _ _ _ _ _ _ us hl => match us, hl with | [_], _ => rfl
  refine ⟨PySem.W.fnOf "law" "law" (defArgs slaw) (defBody slaw) (defScope slaw) .none kV12 dc12 pm12 an12 cd12 ct12, fun s v => .of_eq rfl, fun base _ _ => ?_⟩
  have C_is_integer_in : Cal l.prog w K mg base 2 "is_integer_in" ["value", "least", "greatest"] (spIntIn K) := ⟨_, _, ok_is_integer_in F1 T, (PySem.W.mg_of X G a1), k1, b1⟩
  have C_pairs_of : Cal l.prog w K mg base 1 "pairs_of" ["relation", "modes", "ends"] (spPairsOf K) := ⟨_, _, ok_pairs_of F2 T, (PySem.W.mg_of X G a2), k2, b2⟩
  have C_same_of : Cal l.prog w K mg base 1 "same_of" ["modes", "ends"] (spSame) := ⟨_, _, ok_same_of F3 T, (PySem.W.mg_of X G a3), k3, b3⟩
  have PC : SpC K mg C := ⟨⟨qpg, qhd, qpo, qsa⟩, PySem.W.mg_of X G aC, n_modes, n_watched, n_ends, n_size, n_same, qha, qhn, qht, qhm, kit_self, kit_own qis qty u_tuple, v_tuple, v_self⟩
  have R_modes : PrP l.prog w K mg base C "modes" "_modes" := ⟨p13, _, _, ⟨pa13, pg13, pt13, ⟨_, pr13⟩⟩, ok_Spacemodes F13 T PC, b13⟩
  have R_watched : PrP l.prog w K mg base C "watched" "_watched" := ⟨p14, _, _, ⟨pa14, pg14, pt14, ⟨_, pr14⟩⟩, ok_Spacewatched F14 T PC, b14⟩
  have R_ends : PrP l.prog w K mg base C "ends" "_ends" := ⟨p15, _, _, ⟨pa15, pg15, pt15, ⟨_, pr15⟩⟩, ok_Spaceends F15 T PC, b15⟩
  have R_size : PrP l.prog w K mg base C "size" "_size" := ⟨p16, _, _, ⟨pa16, pg16, pt16, ⟨_, pr16⟩⟩, ok_Spacesize F16 T PC, b16⟩
  have R_same : PrP l.prog w K mg base C "same" "_same" := ⟨p17, _, _, ⟨pa17, pg17, pt17, ⟨_, pr17⟩⟩, ok_Spacesame F17 T PC, b17⟩
  have M__is_relation : MCal l.prog w K mg base C 3 "_is_relation" ["self", "value"] (spIsRel C K) := ⟨_, _, ok_Space_is_relation F23 T PC C_is_integer_in, ⟨a23, i23, k23⟩, b23⟩
  have M__check_relation : MCal l.prog w K mg base C 4 "_check_relation" ["self", "value"] (spChkRel C) := ⟨_, _, ok_Space_check_relation F25 T PC M__is_relation, ⟨a25, i25, k25⟩, b25⟩
  have M__is_pair : MCal l.prog w K mg base C 3 "_is_pair" ["self", "value"] (spIsPair C K) := ⟨_, _, ok_Space_is_pair F24 T PC C_is_integer_in, ⟨a24, i24, k24⟩, b24⟩
  have M_pairs : MCal l.prog w K mg base C 5 "pairs" ["self", "relation"] (spPairsP C K) := ⟨_, _, ok_Spacepairs F19 T PC M__check_relation C_pairs_of, ⟨a19, i19, k19⟩, b19⟩
  have M_relation : MCal l.prog w K mg base C 4 "relation" ["self", "pairs"] (spRelation C K) := ⟨_, _, ok_Spacerelation F20 T PC M__is_pair, ⟨a20, i20, k20⟩, b20⟩
  have M_either : MCal l.prog w K mg base C 5 "either" ["self", "one", "other"] (spTwo C gOr) := ⟨_, _, ok_Spaceeither F21 T PC M__check_relation, ⟨a21, i21, k21⟩, b21⟩
  have M_is_within : MCal l.prog w K mg base C 5 "is_within" ["self", "one", "other"] (spTwo C gIn) := ⟨_, _, ok_Spaceis_within F22 T PC M__check_relation, ⟨a22, i22, k22⟩, b22⟩
  have ib := init_binds F18
  have SM : SpM l.prog w K mg base C := ⟨PC, ⟨_, _, ok_Space__init__ F18 T PC C_is_integer_in C_same_of, ⟨qmk, a18, i18, qkc⟩, ib.1, ib.2⟩, ⟨_, _, ok_Space__eq__ F26 T PC, b26, a26, i26⟩, qne, ⟨_, _, ok_Space__str__ F27 T PC, b27, a27, i27⟩⟩
  have C__law_urn : Cal l.prog w K mg base 1 "_law_urn" ["_law_script", "_law_at"] (spUrn K) := ⟨_, _, ok_l_urn F4 T, (PySem.W.mg_of X G a4), k4, b4⟩
  have C__law_take : Cal l.prog w K mg base 1 "_law_take" ["_law_urn_here", "_law_total"] (spTake) := ⟨_, _, ok_l_take F5 T, (PySem.W.mg_of X G a5), k5, b5⟩
  have C__law_some : Cal l.prog w K mg base 2 "_law_some" ["_law_urn_here", "_law_items", "_law_lots"] (spSome K) := ⟨_, _, ok_l_some F6 T C__law_take, (PySem.W.mg_of X G a6), k6, b6⟩
  have C__law_pairs : Cal l.prog w K mg base 1 "_law_pairs" ["_law_ends_here", "_law_relation"] (spPairsL K) := ⟨_, _, ok_l_pairs F7 T, (PySem.W.mg_of X G a7), k7, b7⟩
  have C__law_bits : Cal l.prog w K mg base 1 "_law_bits" ["_law_ends_here", "_law_pairs_here"] (spBits K) := ⟨_, _, ok_l_bits F8 T, (PySem.W.mg_of X G a8), k8, b8⟩
  have C__law_within : Cal l.prog w K mg base 1 "_law_within" ["_law_one_here", "_law_other"] (spWithin K) := ⟨_, _, ok_l_within F9 T, (PySem.W.mg_of X G a9), k9, b9⟩
  have C__law_sizes : Cal l.prog w K mg base 1 "_law_sizes" ["_law_modes", "_law_watched"] (spSizes) := ⟨_, _, ok_l_sizes F10 T, (PySem.W.mg_of X G a10), k10, b10⟩
  have C__law_right : Cal l.prog w K mg base 6 "_law_right" ["_law_urn_here"] (spRight) := ⟨_, _, ok_l_right F11 T SM R_modes R_watched R_ends R_size R_same C__law_take C__law_some C__law_pairs C__law_bits C__law_within C__law_sizes M_pairs M_relation M_either M_is_within, (PySem.W.mg_of X G a11), k11, b11⟩
  exact ok_law F12 T SM R_size M_pairs M_relation C__law_urn C__law_right
end SQ

set_option Elab.async false
set_option linter.all false
set_option maxRecDepth 100000
open PySem PySem.W PyProof.Rows
set_option maxHeartbeats 0 in
theorem PySem.Challenge.cw_blockshanded_k20_relations_by_their_pair_holds : PySem.Challenge.rw_blockshanded_k20_relations_by_their_pair.Holds := by
  w_on; o_law; k_head; (case hw => w_witness2)
  k_fill
  refine L2.walk_of (l := PySem.Challenge.rw_blockshanded_k20_relations_by_their_pair) (n := 63) (k := 7) (x := "_law_script") (CX := fun _ => L2.CX0) (sp := fun w => SQ.spLaw _) rfl (by decide) rfl ⟨rfl, by decide, by decide⟩ (fun w h Y => PySem.W.kIn_of Y) ?F (fun _ _ a ns hl _ hS => ⟨a, ns, rfl, hS, hl, fun _ => rfl⟩) (fun _ _ _ _ _ h => h)
  case F =>
    intro w mg fa h KX G hmg
    refine' SQ.all_mk KX G hmg ?a1 ?l1 ?c1 ?k1 ?a2 ?l2 ?c2 ?k2 ?a3 ?l3 ?c3 ?k3 ?a4 ?l4 ?c4 ?k4 ?a5 ?l5 ?c5 ?k5 ?a6 ?l6 ?c6 ?k6 ?a7 ?l7 ?c7 ?k7 ?a8 ?l8 ?c8 ?k8 ?a9 ?l9 ?c9 ?k9 ?a10 ?l10 ?c10 ?k10 ?a11 ?l11 ?c11 ?k11 ?a12 ?l12 ?c12 ?k12 ?pa13 ?pg13 ?pt13 ?pr13 ?l13 ?c13 ?k13 ?pa14 ?pg14 ?pt14 ?pr14 ?l14 ?c14 ?k14 ?pa15 ?pg15 ?pt15 ?pr15 ?l15 ?c15 ?k15 ?pa16 ?pg16 ?pt16 ?pr16 ?l16 ?c16 ?k16 ?pa17 ?pg17 ?pt17 ?pr17 ?l17 ?c17 ?k17 ?a18 ?i18 ?l18 ?c18 ?k18 ?w18_0 ?a19 ?i19 ?l19 ?c19 ?k19 ?a20 ?i20 ?l20 ?c20 ?k20 ?a21 ?i21 ?l21 ?c21 ?k21 ?a22 ?i22 ?l22 ?c22 ?k22 ?a23 ?i23 ?l23 ?c23 ?k23 ?a24 ?i24 ?l24 ?c24 ?k24 ?a25 ?i25 ?l25 ?c25 ?k25 ?a26 ?i26 ?l26 ?c26 ?k26 ?a27 ?i27 ?l27 ?c27 ?k27 ?z_isinstance ?z_int ?z_bool ?z_str ?z_tuple ?z_list ?z_len ?z_all ?z_sum ?z_set ?z_range ?z_abs ?z_max ?z_min ?z_sorted ?z_divmod ?z_repr ?z_zip ?y_MAX_MODES ?aC ?qpg ?qhd ?qpo ?qsa ?qmk ?qkc ?n_modes ?n_watched ?n_ends ?n_size ?n_same ?qha ?qhn ?qht ?qhm ?qis ?qty ?qne ?u_tuple ?v_tuple ?v_self
    (case aC => k_is)
    (case a1 => k_is)
    (case l1 => k_is)
    (case c1 => k_is)
    (case k1 => k_is)
    (case a2 => k_is)
    (case l2 => k_is)
    (case c2 => k_is)
    (case k2 => k_is)
    (case a3 => k_is)
    (case l3 => k_is)
    (case c3 => k_is)
    (case k3 => k_is)
    (case a4 => k_is)
    (case l4 => k_is)
    (case c4 => k_is)
    (case k4 => k_is)
    (case a5 => k_is)
    (case l5 => k_is)
    (case c5 => k_is)
    (case k5 => k_is)
    (case a6 => k_is)
    (case l6 => k_is)
    (case c6 => k_is)
    (case k6 => k_is)
    (case a7 => k_is)
    (case l7 => k_is)
    (case c7 => k_is)
    (case k7 => k_is)
    (case a8 => k_is)
    (case l8 => k_is)
    (case c8 => k_is)
    (case k8 => k_is)
    (case a9 => k_is)
    (case l9 => k_is)
    (case c9 => k_is)
    (case k9 => k_is)
    (case a10 => k_is)
    (case l10 => k_is)
    (case c10 => k_is)
    (case k10 => k_is)
    (case a11 => k_is)
    (case l11 => k_is)
    (case c11 => k_is)
    (case k11 => k_is)
    (case a12 => k_is)
    (case l12 => k_is)
    (case c12 => k_is)
    (case k12 => k_is)
    (case pa13 => k_is)
    (case pg13 => k_is)
    (case pt13 => k_is)
    (case pr13 => k_is)
    (case l13 => k_is)
    (case c13 => k_is)
    (case k13 => k_is)
    (case pa14 => k_is)
    (case pg14 => k_is)
    (case pt14 => k_is)
    (case pr14 => k_is)
    (case l14 => k_is)
    (case c14 => k_is)
    (case k14 => k_is)
    (case pa15 => k_is)
    (case pg15 => k_is)
    (case pt15 => k_is)
    (case pr15 => k_is)
    (case l15 => k_is)
    (case c15 => k_is)
    (case k15 => k_is)
    (case pa16 => k_is)
    (case pg16 => k_is)
    (case pt16 => k_is)
    (case pr16 => k_is)
    (case l16 => k_is)
    (case c16 => k_is)
    (case k16 => k_is)
    (case pa17 => k_is)
    (case pg17 => k_is)
    (case pt17 => k_is)
    (case pr17 => k_is)
    (case l17 => k_is)
    (case c17 => k_is)
    (case k17 => k_is)
    (case a18 => k_is)
    (case i18 => k_is)
    (case l18 => k_is)
    (case c18 => k_is)
    (case k18 => k_is)
    (case w18_0 => k_is)
    (case a19 => k_is)
    (case i19 => k_is)
    (case l19 => k_is)
    (case c19 => k_is)
    (case k19 => k_is)
    (case a20 => k_is)
    (case i20 => k_is)
    (case l20 => k_is)
    (case c20 => k_is)
    (case k20 => k_is)
    (case a21 => k_is)
    (case i21 => k_is)
    (case l21 => k_is)
    (case c21 => k_is)
    (case k21 => k_is)
    (case a22 => k_is)
    (case i22 => k_is)
    (case l22 => k_is)
    (case c22 => k_is)
    (case k22 => k_is)
    (case a23 => k_is)
    (case i23 => k_is)
    (case l23 => k_is)
    (case c23 => k_is)
    (case k23 => k_is)
    (case a24 => k_is)
    (case i24 => k_is)
    (case l24 => k_is)
    (case c24 => k_is)
    (case k24 => k_is)
    (case a25 => k_is)
    (case i25 => k_is)
    (case l25 => k_is)
    (case c25 => k_is)
    (case k25 => k_is)
    (case a26 => k_is)
    (case i26 => k_is)
    (case l26 => k_is)
    (case c26 => k_is)
    (case k26 => k_is)
    (case a27 => k_is)
    (case i27 => k_is)
    (case l27 => k_is)
    (case c27 => k_is)
    (case k27 => k_is)
    (case z_isinstance => k_is)
    (case z_int => k_is)
    (case z_bool => k_is)
    (case z_str => k_is)
    (case z_tuple => k_is)
    (case z_list => k_is)
    (case z_len => k_is)
    (case z_all => k_is)
    (case z_sum => k_is)
    (case z_set => k_is)
    (case z_range => k_is)
    (case z_abs => k_is)
    (case z_max => k_is)
    (case z_min => k_is)
    (case z_sorted => k_is)
    (case z_divmod => k_is)
    (case z_repr => k_is)
    (case z_zip => k_is)
    (case y_MAX_MODES => k_is)
    (case qpg => k_is)
    (case qhd => k_is)
    (case qpo => k_is)
    (case qsa => k_is)
    (case qmk => k_is)
    (case qkc => k_is)
    (case n_modes => k_is)
    (case n_watched => k_is)
    (case n_ends => k_is)
    (case n_size => k_is)
    (case n_same => k_is)
    (case qha => k_is)
    (case qhn => k_is)
    (case qht => k_is)
    (case qhm => k_is)
    (case qis => k_is)
    (case qty => k_is)
    (case qne => k_is)
    (case u_tuple => first | k_is | rfl)
    (case v_tuple => k_is)
    (case v_self => k_is)

