import PyProof.Rows.All
import Wide.All
import OpenK.AllK
import Wide.FinOn
import HandS.ForMost
import HandS.Set
import HandS.SetBool
import KE.GoesMore
import KE.GoesZip
import HandS.Zip
import PyProof.ReprRoads
import HandS.Base
import HandS.Call
import HandS.List
import HandS.Ends
import HandS.Exc
import HandS.Lambda
import HandS.EndTab
import HandS.Words
import HandS.WordsExc
import HandS.EndBits
import KE.KExcInit
import HandS.ExcInit
import HandS.IsInst
import HandS.ExcField
import HandS.RaiseMore
import KE.KExcIs
import HandS.TryMany
import HandS.Strs
import PyProof.Rows.SortShellAny
import HandS.Deep
import HandS.TupMul
import HandS.TupAny
import HandS.Walk
import HandS.OwnEq
import HandS.Property
import KE.KCallOwn
import PyProof.InstNe
import HandS.FStr
import HandS.Dict
import HandS.More
import HandS.Small
import HandS.Conv
import PySem.Challenge.RW_blockshanded_k28_contexts_judged
import HandS.TupSets
import PyProof.P3Eq
import HandS.DictComp
import HandS.Star
import HandS.ClsMeth
import HandS.WordsDict
import PyProof.FactsAll.dict_1
import PyProof.FactsAll.subtypes_4
import KE.KRevSl
import PyProof.NeKinds
import HandS.ExcIs
import HandS.WideBits
import HandS.MakeKwOnly
import HandS.Sort
import PyProof.Rows.InDataRows
import HandS.Style
import HandS.Defaults
import KE.KDictZip
import HandS.ListItems
import HandS.Iter
import KE.KStateDown
import KE.OsRunLaw
import HandS.Head0
import HandS.Head1
import HandS.Head2
set_option Elab.async false
set_option linter.all false
set_option maxRecDepth 100000
set_option maxHeartbeats 4000000
/-! sets of texts: their members in the order in which they came in; a set comprehension; sorted of such a set -/
namespace FS
open PySem PySem.Spec PyProof.Rows L2
/-- the text of a member -/
def txt : Int × Value → Str
  | (_, .str x _) => x
  | _ => Str.empty
def Mem1 (w : World) (m : Int × Value) : Prop := ∃ x tk, m = (hashStr w x, Value.str x tk)
/-- at a stands the set of the texts xs -/
structure Tab (w : World) (xs : List Str) (ms : Array (Int × Value)) (t : SetTable) : Prop where
  mem : ∀ m ∈ ms.toList, Mem1 w m
  perm : (ms.toList.map txt).Perm xs
  nd : xs.Nodup
  few : ms.size < scanBound
  fit : t.fits ms.size = true
  ris : Ris t.place.toList
  ord : w.params.followText "set-order" = true ∨ t.led = true
def SetS (w : World) (h : Heap) (a : Addr) (xs : List Str) : Prop :=
  ∃ o ms ep t, h.get? a = some o ∧ o.ExactSet ∧ o.data = .set ms ep t ∧ Tab w xs ms t
def addS (xs : List Str) (x : Str) : List Str := if x ∈ xs then xs else xs ++ [x]
section
variable {P : Program} {w : World}
theorem Mem1.is {m : Int × Value} (g : Mem1 w m) (x : Str) : (strKind P w).is x m.2 = true ↔ txt m = x := by
  obtain ⟨y, tk, rfl⟩ := g
  constructor
  · intro h
    exact (strKind P w).inj _ _ _ (strKind_is P w y tk) h
  · intro h
    rw [← show y = x from h]
    exact strKind_is P w y tk
theorem Tab.elems {xs : List Str} {ms : Array (Int × Value)} {t : SetTable} (T : Tab w xs ms t) : ElemsOf (strKind P w) ms.toList := fun m hm => by
  obtain ⟨y, tk, rfl⟩ := T.mem m hm
  exact ⟨⟨y, strKind_is P w y tk, rfl⟩, rfl⟩
theorem Tab.has {xs : List Str} {ms : Array (Int × Value)} {t : SetTable} (T : Tab w xs ms t) (x : Str) : x ∈ xs ↔ ∃ m ∈ ms.toList, (strKind P w).is x m.2 = true := by
  rw [← T.perm.mem_iff, List.mem_map]
  exact ⟨fun ⟨m, hm, e⟩ => ⟨m, hm, ((T.mem m hm).is x).mpr e⟩, fun ⟨m, hm, e⟩ => ⟨m, hm, ((T.mem m hm).is x).mp e⟩⟩
theorem Tab.size {xs : List Str} {ms : Array (Int × Value)} {t : SetTable} (T : Tab w xs ms t) : ms.size = xs.length := by
  have e := T.perm.length_eq
  rw [List.length_map, Array.length_toList] at e
  exact e
/-- the same members laid otherwise -/
theorem Tab.laid {xs : List Str} {ms ms' : Array (Int × Value)} {t t' : SetTable} (T : Tab w xs ms t) (p : ms'.toList.Perm ms.toList) (f : t'.fits ms'.size = true) (r : Ris t'.place.toList) (l : t'.led = t.led) : Tab w xs ms' t' where
  mem := fun m hm => T.mem m (p.mem_iff.mp hm)
  perm := (p.map txt).trans T.perm
  nd := T.nd
  few := by
    have e := p.length_eq
    rw [Array.length_toList, Array.length_toList] at e
    rw [e]
    exact T.few
  fit := f
  ris := r
  ord := T.ord.imp id fun z => l.trans z
end
section
variable {P : Program} {w : World} {A : Around} {E : Value → Shared → Prop} {s : Shared} {a : Addr} {xs : List Str}
theorem SetS.of (R : SetS w s.heap a xs) : s.heap.SetOf (strKind P w) a (fun x => decide (x ∈ xs)) xs.length := by
  obtain ⟨o, ms, ep, t, ho, hx, hd, T⟩ := R
  exact ⟨o, ms, ep, t, ho, hx, hd, T.elems, fun k => decide_eq_true_iff.trans (T.has k), T.few, T.fit, T.size⟩
/-- the table stored, made greater where it is too full -/
theorem stored {give : Bool → Sem Unit} (hg : ∀ (b : Bool) (s1 : Shared) (Q1 : Unit → Shared → Prop), Q1 () s1 → wpAny (model P w) A (give b) Q1 E s1) {o : Obj} {ms ms1 : Array (Int × Value)} {ep : Nat} {t t1 : SetTable}
    (ho : s.heap.get? a = some o) (hx : o.ExactSet) (hd : o.data = .set ms ep t) (T : Tab w xs ms1 t1) {was : Bool} {R : Option Bool → Shared → Prop} (hR : ∀ h', Heap.SameBut a s.heap h' → SetS w h' a xs → R (some true) { s with heap := h' }) :
    wpAny (model P w) A (do
      storeSet a ms1 t1
      if (!was && t1.tooFull) = true then do
        give (relayAll t1 ms1 (SetTable.grown ms1.size)).2.2
        storeSet a (relayAll t1 ms1 (SetTable.grown ms1.size)).1 (relayAll t1 ms1 (SetTable.grown ms1.size)).2.1
        pure (some true)
      else pure (some true)) R E s := by
  have h1 := store_at (es' := ms1) (t' := t1) ho hd
  have b1 := Heap.SameBut.update s.heap a (Obj.putSet ms1 t1)
  refine wpAny_bind (wpAny_storeSet_of ho hd ?_ (fits_of_scanBound T.few))
  by_cases c : (!was && t1.tooFull) = true
  · rw [if_pos c]
    have T2 : Tab w xs (relayAll t1 ms1 (SetTable.grown ms1.size)).1 (relayAll t1 ms1 (SetTable.grown ms1.size)).2.1 := by
      have pm := relayAll_perm t1 ms1 (SetTable.grown ms1.size)
      have sz : (relayAll t1 ms1 (SetTable.grown ms1.size)).1.size = ms1.size := by rw [← Array.length_toList, pm.length_eq, Array.length_toList]
      exact T.laid pm (by have f := relayAll_fits t1 ms1 (SetTable.grown ms1.size); first | exact f | (rw [sz]; exact f)) (relayAll_ris t1 ms1 _ ) (relayAll_led t1 ms1 _)
    generalize relayAll t1 ms1 (SetTable.grown ms1.size) = Z at T2 ⊢
    refine wpAny_bind (hg _ _ _ (wpAny_bind (wpAny_storeSet_of h1 rfl (wpAny_pure (hR _ (b1.trans (Heap.SameBut.update _ a _)) ⟨_, _, _, _, store_at h1 rfl, hx, rfl, T2⟩)) (fits_of_scanBound T2.few))))
  · rw [if_neg c]
    exact wpAny_pure (hR _ b1 ⟨_, _, _, _, h1, hx, rfl, T⟩)
end
end FS
set_option Elab.async false
set_option linter.all false
set_option maxRecDepth 100000
set_option maxHeartbeats 4000000
/-! zip of a text and a tuple -/
set_option Elab.async false
set_option linter.all false
set_option maxRecDepth 100000
set_option maxHeartbeats 4000000
/-! defs that may show containers: nothing is being shown above them -/
namespace FS
open PySem PySem.Spec PyProof.Rows L2
/-- as FnOk, where no container is being shown -/
structure FnG (P : Program) (w : World) (K : PySem.W.Frag) (mg : Str → Option Value) (base : Heap) (CX : CXT) (k : Nat) (f : Addr) (fd : FuncData) (ps : List Str) (sp : Sp) : Prop where
  len : ∀ vs H Q E, sp vs H Q E → vs.length = ps.length
  go : ∀ {A : Around} {outer : List Env} {s : Shared} {H : Hp} {args : Args} {us : List Value} {vs : List V} {Q : VK} {E : XK}, A.guards = some [] → Room k A → Env0 P w K mg base A outer s H → BindsTo s fd args (ps.zip us) → Vals vs us → sp vs H Q E →
    codeAny (model P w) A (.call (.ref f) args) (CR CX outer P w H s Q E) s
section
variable {P : Program} {w : World} {K : PySem.W.Frag} {mg : Str → Option Value} {base : Heap}
theorem FnG.mono {CX : CXT} {j k : Nat} {f : Addr} {fd : FuncData} {ps : List Str} {sp : Sp} (F : FnG P w K mg base CX j f fd ps sp) (h : j ≤ k) : FnG P w K mg base CX k f fd ps sp :=
  ⟨F.len, fun g r => F.go g (r.mono h)⟩
end
/-! ### repr of data -/
mutual
/-- data, empty dicts among it -/
inductive Dq (K : PySem.W.Frag) (H : Hp) : V → PyData → Prop
  | non : Dq K H .non .none
  | bl (b : Bool) : Dq K H (.bl b) (.bool b)
  | int (i : Int) : Dq K H (.int i) (.int i)
  | str (x : Str) : Dq K H (.str x) (.str x)
  | lst {a : Addr} {xs : List V} {ds : List PyData} : H a = some (.lst xs) → DqAll K H xs ds → Dq K H (.ref a) (.list ds)
  | tup {a : Addr} {xs : List V} {ds : List PyData} : SqT K H a xs → DqAll K H xs ds → Dq K H (.ref a) (.tuple ds)
  | dct {a : Addr} : H a = some (.dK []) → Dq K H (.ref a) (.dict [])
inductive DqAll (K : PySem.W.Frag) (H : Hp) : List V → List PyData → Prop
  | nil : DqAll K H [] []
  | cons {v : V} {vs : List V} {d : PyData} {ds : List PyData} : Dq K H v d → DqAll K H vs ds → DqAll K H (v :: vs) (d :: ds)
end
section
variable {X : Cx} {pins : List (Addr × Obj)} {σ : L2.St} {H : Hp} {s : Shared}
theorem no_sys (I : Inv X pins σ H s) (hs : ∃ mm, X.base.Ns sysModules mm) {a : Addr} {o : HO} (e : H a = some o) : a ≠ sysModules := fun z => by
  obtain ⟨mm, ob, es, ep, at_, _⟩ := hs
  have n := (I.bs _ _ at_).2
  rw [← z, e] at n
  cases n
mutual
theorem Dq.reads (I : Inv X pins σ H s) (hs : ∃ mm, X.base.Ns sysModules mm) : ∀ (d : PyData) {v : V} {u : Value}, Dq X.K H v d → RelV v u → ∃ as, Reads s.heap u d as ∧ sysModules ∉ as
  | .none, _, _, h, r => by
    cases h
    obtain rfl := (show _ = Value.none from r)
    exact ⟨[], Reads.none, fun z => nomatch z⟩
  | .bool b, _, _, h, r => by
    cases h
    obtain rfl := (show _ = Value.bool b from r)
    exact ⟨[], Reads.bool b, fun z => nomatch z⟩
  | .int i, _, _, h, r => by
    cases h
    obtain ⟨t, rfl⟩ := r
    exact ⟨[], Reads.int i t, fun z => nomatch z⟩
  | .str x, _, _, h, r => by
    cases h
    obtain ⟨t, rfl⟩ := r
    exact ⟨[], Reads.str x t, fun z => nomatch z⟩
  | .list ds, _, u, h, r => by
    cases h with
    | @lst a xs _ e q =>
      obtain rfl : u = Value.ref a := r
      obtain ⟨its, n, rv, at_, _⟩ := I.lst e
      obtain ⟨as, rd, no⟩ := Dq.readsAll I hs ds q rv
      refine ⟨a :: as, Reads.list at_ rfl rfl rd, fun z => ?_⟩
      rcases List.mem_cons.mp z with z | z
      · exact no_sys I hs e z.symm
      · exact no z
  | .tuple ds, _, u, h, r => by
    cases h with
    | @tup a xs _ e q =>
      obtain rfl : u = Value.ref a := r
      obtain ⟨its, rv, ⟨o, at_, kind, n, data⟩, _⟩ := I.tuple e
      obtain ⟨as, rd, no⟩ := Dq.readsAll I hs ds q rv
      exact ⟨as, Reads.tuple at_ kind data rd, no⟩
  | .dict kvs, _, u, h, r => by
    cases h with
    | @dct a e =>
      obtain rfl : u = Value.ref a := r
      obtain ⟨_, _, vs, kv, o, es, ep, e1, e2, e3, e4, e5, e6⟩ := I.hok a _ e
      cases kv
      have en : es.toList = [] := by
        cases q : es.toList with
        | nil => rfl
        | cons x l =>
          rw [q] at e5
          cases e5
      refine ⟨a :: [] ++ [], Reads.dict (kvs := []) (as := []) (bs := []) e1 e2.1 e3 ?_ ?_, ?_⟩
      · rw [en]
        exact .nil
      · rw [en]
        exact .nil
      · intro z
        rcases List.mem_cons.mp z with z | z
        · exact no_sys I hs e z.symm
        · exact absurd z (by simp)
theorem Dq.readsAll (I : Inv X pins σ H s) (hs : ∃ mm, X.base.Ns sysModules mm) : ∀ (ds : List PyData) {vs : List V} {us : List Value}, DqAll X.K H vs ds → Vals vs us → ∃ as, ReadsAll s.heap us ds as ∧ sysModules ∉ as
  | [], _, _, h, r => by
    cases h
    cases r
    exact ⟨[], .nil, fun z => nomatch z⟩
  | d :: ds, _, _, h, r => by
    cases h with
    | cons h1 h2 =>
      cases r with
      | cons r1 r2 =>
        obtain ⟨as, q1, n1⟩ := Dq.reads I hs d h1 r1
        obtain ⟨bs, q2, n2⟩ := Dq.readsAll I hs ds h2 r2
        exact ⟨as ++ bs, .cons q1 q2, fun z => (List.mem_append.mp z).elim n1 n2⟩
end
end
end FS
set_option Elab.async false
set_option linter.all false
set_option maxRecDepth 100000
set_option maxHeartbeats 4000000
/-! the end of a law whose defs may show containers -/
namespace FS
open PySem PySem.Spec PyProof.Rows L2 LamX
/-- the module as the law is called -/
structure TopS (K : PySem.W.Frag) (mg : Str → Option Value) (tabs : List (Addr × Addr)) (scr : Addr) (us : List Value) (t : Shared) : Prop where
  kin : K.In t.heap
  globals : t.heap.Ns mainGlobals mg
  built : ∃ mb, t.heap.Ns builtinsNs mb ∧ ∀ x : Str, x ≠ "__name__" → mb x = bootBuiltins x
  free : t.heap.NoLimit
  still : t.gens = #[]
  empty : ∀ c ∈ tabs, t.heap.get? c.2 = some { cls := .none, data := .fields #[] }
  apart : ∀ c ∈ tabs, K.lookup c.2 = none
  codes : ∀ c ∈ tabs, PySem.W.CodeHd t.heap c.1 c.2
  module : ∃ (bm : Addr) (ob : Obj), mg "__builtins__" = some (.ref bm) ∧ bm ≠ builtinsNs ∧ t.heap.get? bm = some ob ∧ ob.cls = .type "module" ∧ ob.dict = some builtinsNs ∧ ob.data = .plain
  script : t.heap.get? scr = some { cls := .type "list", data := .seq us.toArray }
section
variable {P : Program} {w : World} {K : PySem.W.Frag} {mg : Str → Option Value} {tabs : List (Addr × Addr)} {scr : Addr} {us : List Value} {t : Shared} {H : Hp}
/-- only these are tracked -/
def Few (tabs : List (Addr × Addr)) (scr : Addr) (H : Hp) : Prop := ∀ b, H b ≠ none → b = scr ∨ ∃ c ∈ tabs, b = c.2
theorem TopS.away (T : TopS K mg tabs scr us t) (few : Few tabs scr H) {b : Addr} {o : Obj} (at_ : t.heap.get? b = some o) (n1 : ∀ vs n, o.data ≠ .seq vs n) (n2 : o.data ≠ .fields #[]) : H b = none := by
  refine Classical.byContradiction fun tracked => ?_
  rcases few b tracked with rfl | ⟨c, hc, rfl⟩
  · rw [T.script] at at_
    exact n1 _ _ (congrArg Obj.data (Option.some.inj at_)).symm
  · rw [T.empty c hc] at at_
    exact n2 (congrArg Obj.data (Option.some.inj at_)).symm
theorem TopS.ns (T : TopS K mg tabs scr us t) (few : Few tabs scr H) {b : Addr} {m : Str → Option Value} (h : t.heap.Ns b m) : (hidT t.heap H).Ns b m := by
  obtain ⟨o, es, ep, at_, dict, r⟩ := h
  refine ⟨o, es, ep, hidT_get at_ (T.away few at_ (fun vs n z => ?_) fun z => ?_), dict, r⟩
  · rw [dict] at z
    cases z
  · rw [dict] at z
    cases z
theorem TopS.base_in (T : TopS K mg tabs scr us t) (few : Few tabs scr H) (own : H scr ≠ none → K.lookup scr = none) : K.In (hidT t.heap H) := fun b o at_ => by
  refine hidT_get (T.kin b o at_) (Classical.byContradiction fun tracked => ?_)
  rcases few b tracked with rfl | ⟨c, hc, rfl⟩
  · rw [own tracked] at at_
    cases at_
  · rw [T.apart c hc] at at_
    cases at_
theorem TopS.env (T : TopS K mg tabs scr us t) (few : Few tabs scr H) (own : H scr ≠ none → K.lookup scr = none) (ok : HOk P w H t.heap) : Env0 P w K mg (hidT t.heap H) callerA [] t H where
  frames := rfl
  mod := by
    obtain ⟨mb, b1, b2⟩ := T.built
    obtain ⟨mc, l1, l2⟩ := T.free
    exact ⟨T.base_in few own, T.ns few T.globals, ⟨mb, T.ns few b1, b2⟩, ⟨mc, T.ns few l1, l2⟩⟩
  bs := fun b o at_ => of_hidT at_
  bsz := Nat.le_of_eq (hidT_size _ _)
  funs := trivial
  frf := fun b hb => nomatch hb
  hok := ok
  bare := .of_eq T.still
/-- the law's call, from some abstract heap -/
theorem TopS.run (T : TopS K mg tabs scr us t) (few : Few tabs scr H) (own : H scr ≠ none → K.lookup scr = none) (ok : HOk P w H t.heap) {k : Nat} {fa : Addr} {fd : FuncData} {x : Str} {sp : Sp}
    (F : FnG P w K mg (hidT t.heap H) CX0 k fa fd [x] sp) (room : Room k callerA) (bind : BindsTo t fd ⟨[.ref scr], []⟩ [(x, .ref scr)]) (pr : sp [.ref scr] H (fun v _ => v = .bl true) fun _ _ _ => False)
    (htab : ∀ c ∈ tabs, H c.2 = some (.tbl #[])) (hscr : H scr = none ∨ (∃ c ∈ tabs, scr = c.2) ∨ ∃ o xs, H scr = some (.frz o (.lst xs))) :
    codeAny (model P w) callerA (.call (.ref fa) ⟨[.ref scr], []⟩) (fun r s' => r = .ok (.ret (.bool true)) ∧ OldK t.heap s'.heap ∧ s'.os = t.os ∧ AllBare s'.gens) t := by
  have told := F.go (outer := []) (us := [.ref scr]) (vs := [.ref scr]) rfl room (T.env few own ok) bind (.cons rfl .nil) pr
  refine codeAny_mono told fun r s' h => ?_
  match r, h with
  | .error e, h => exact h.elim
  | .ok .next, h => exact h.elim
  | .ok .brk, h => exact h.elim
  | .ok .cont, h => exact h.elim
  | .ok (.ret u), ⟨v, H', os, bare, un, ok', rel, is⟩ =>
    have is : v = .bl true := is
    subst is
    obtain rfl : u = Value.bool true := rel
    have keeps : ∀ b o, (¬ ∃ c ∈ tabs, b = c.2) → t.heap.get? b = some o → s'.heap.get? b = some o := fun b o nt at_ => by
      cases tr : H b with
      | none => exact un.keep b o at_ tr (fun z => nomatch z) (fun z => nomatch z)
      | some y =>
        rcases few b (by rw [tr]; exact Option.some_ne_none _) with rfl | q
        · rcases hscr with z | z | ⟨ob, xs, z⟩
          · rw [z] at tr
            cases tr
          · exact absurd z nt
          · have before := (ok b _ z).1
            rw [at_] at before
            rw [Option.some.inj before]
            exact (ok' b _ (un.frzs b ob _ z)).1
        · exact absurd q nt
    have grown : ∀ c ∈ tabs, ∃ more : Array Value, s'.heap.get? c.2 = some { cls := .none, data := .fields more } := fun c hc => by
      obtain ⟨more, z⟩ := un.tbls c.2 #[] (htab c hc)
      exact ⟨_, ok' c.2 _ z⟩
    refine ⟨rfl, ⟨fun b o at_ => ?_, fun b o at_ => ?_⟩, os, bare⟩
    · by_cases tb : ∃ c ∈ tabs, b = c.2
      · obtain ⟨c, hc, rfl⟩ := tb
        rw [T.empty c hc] at at_
        obtain ⟨more, hm⟩ := grown c hc
        cases at_
        exact .inr (.inl ⟨((T.codes c hc).tab (T.empty c hc)).isCodeTable, rfl, #[], more, rfl, by rw [Array.empty_append]; exact hm⟩)
      · exact .inl (keeps b o tb at_)
    · by_cases tb : ∃ c ∈ tabs, b = c.2
      · obtain ⟨c, hc, rfl⟩ := tb
        obtain ⟨more, hm⟩ := grown c hc
        exact ⟨_, hm⟩
      · exact ⟨o, keeps b o tb at_⟩
end
end FS
set_option Elab.async false
set_option linter.all false
set_option maxRecDepth 100000
set_option maxHeartbeats 4000000
set_option Elab.async false
set_option linter.all false
set_option maxRecDepth 100000
set_option maxHeartbeats 4000000
/-! own error classes with an own __init__ over any of the built-in ones: made -/
namespace PySem
end PySem
set_option Elab.async false
set_option linter.all false
set_option maxRecDepth 100000
set_option maxHeartbeats 4000000
namespace PySem
end PySem
set_option Elab.async false
set_option linter.all false
set_option maxRecDepth 100000
set_option maxHeartbeats 4000000
/-! own errors as values: made, their field read, their class asked -/
set_option Elab.async false
set_option linter.all false
set_option maxRecDepth 100000
set_option maxHeartbeats 4000000
namespace FS
open PySem PySem.Spec PyProof.Rows L2
/-- what stands of an own error's class for its instances to be asked -/
structure Err (K : PySem.W.Frag) (C : Addr) : Prop where
  xf : XfC K C
  ha : PySem.W.findIn K (.ref C) "__class__" = some (some (.builtin "object.__class__"))
  hn : PySem.W.specialIn K (.builtin "object.__class__") "__get__" = some (some (.builtin "getset_descriptor.__get__"))
  htk : PySem.W.takesIn K (.builtin "object.__class__") = some true
  hm : PySem.W.mroIn K C (.type "object") = some true
theorem Err.cls {K : PySem.W.Frag} {C : Addr} (T : Err K C) : (PySem.W.clsIn K C).isSome = true := by
  obtain ⟨cd, h, _⟩ := PySem.W.any_some T.xf.hdC
  rw [h]
  rfl
/-! ### the built-in ones -/
end FS
set_option Elab.async false
set_option linter.all false
set_option maxRecDepth 100000
set_option maxHeartbeats 4000000
/-! several except clauses, each with a name or without -/
set_option Elab.async false
set_option linter.all false
set_option maxRecDepth 100000
set_option maxHeartbeats 4000000
/-! own errors with one field: raised; their field read and shown -/
set_option Elab.async false
set_option linter.all false
set_option maxRecDepth 100000
set_option maxHeartbeats 4000000
/-! a lambda handed on: two errors are told by a word each, a third by its field, which is shown -/
set_option Elab.async false
set_option linter.all false
set_option maxRecDepth 100000
set_option maxHeartbeats 4000000
namespace FS
open PySem PySem.Spec PyProof.Rows L2
section
variable {P : Program} {w : World} {A : Around} {E : Value → Shared → Prop} {s : Shared} {a : Addr} {xs : List Str}
theorem put1 {x : Str} {tk : Tok} {Q : Bool → Shared → Prop} (R : SetS w s.heap a xs) (room : xs.length + 1 < scanBound)
    (hQ : ∀ h', Heap.SameBut a s.heap h' → SetS w h' a (addS xs x) → ∀ b, Q b { s with heap := h' }) : wpAny (model P w) A (setAddHashed a (.str x tk) ((strKind P w).hash x)) Q E s := by
  obtain ⟨o, ms, ep, t, ho, hx, hd, T⟩ := R
  have key := strKind_is P w x tk
  have el : ElemsOf (strKind P w) ms.toList := T.elems
  have sc : (Value.str x tk).scannable = true := rfl
  have quietly : ∀ (b : Bool) {s1 : Shared} {Q1 : Unit → Shared → Prop}, Q1 () s1 → wpAny (model P w) A (match b with | true => rule "set.scan.the-table-gave-way" | false => pure ()) Q1 E s1 := fun b _ _ q => by
    cases b
    · exact wpAny_pure q
    · exact wpAny_rule q
  unfold setAddHashed setAddHashedIn
  refine wpAny_holding (wpAny_bind (wpAny_setState_of ho hd T.fit ?_))
  dsimp only
  rw [byScan_of sc T.few el]
  simp only [↓reduceIte]
  unfold setAddByScan
  refine wpAny_bind (wpAny_bind (wpAny_rule (wpAny_bind (wpAny_setScan_of key ho hd T.fit el ?_))))
  cases hf : List.findIdx? (fun e => (strKind P w).is x e.2) ms.toList with
  | some j =>
    obtain ⟨hj, pj, _⟩ := List.findIdx?_eq_some_iff_getElem.mp hf
    have hm : x ∈ xs := (T.has (P := P) x).mpr ⟨_, List.getElem_mem hj, pj⟩
    refine wpAny_pure (wpAny_pure (hQ s.heap (Heap.SameBut.refl a s.heap) ?_ _))
    unfold addS
    rw [if_pos hm]
    exact ⟨o, ms, ep, t, ho, hx, hd, T⟩
  | none =>
    have hm : x ∉ xs := fun z => by
      obtain ⟨m, h1, h2⟩ := (T.has (P := P) x).mp z
      have h3 := List.findIdx?_eq_none_iff.mp hf m h1
      rw [h2] at h3
      cases h3
    dsimp only
    have T1 : Tab w (addS xs x) (layNew t ms ((strKind P w).hash x) (.str x tk)).1 (layNew t ms ((strKind P w).hash x) (.str x tk)).2.1 := by
      have pm := layNew_perm t ms ((strKind P w).hash x) (.str x tk)
      rw [Array.toList_push] at pm
      have pc := pm.trans (List.perm_append_singleton _ _)
      have e : addS xs x = xs ++ [x] := by
        unfold addS
        rw [if_neg hm]
      have pk : ((layNew t ms ((strKind P w).hash x) (.str x tk)).1.toList.map txt).Perm (xs ++ [x]) := ((pc.map txt).trans (List.Perm.cons x T.perm)).trans (List.perm_append_singleton x xs).symm
      have sz : (layNew t ms ((strKind P w).hash x) (.str x tk)).1.size = xs.length + 1 := by
        rw [← Array.length_toList, ← List.length_map (f := txt), pk.length_eq, List.length_append]
        rfl
      rw [e]
      refine ⟨fun m h => ?_, pk, List.nodup_append.mpr ⟨T.nd, (by simp), fun y hy z hz => ?_⟩, by rw [sz]; exact room, layNew_fits t ms _ _, layNew_ris t ms _ _ T.ris, T.ord.imp id fun z => (layNew_led t ms _ _).trans z⟩
      · rcases List.mem_cons.mp (pc.mem_iff.mp h) with z | z
        · exact ⟨x, tk, z⟩
        · exact T.mem m z
      · rw [List.mem_singleton.mp hz]
        intro e2
        exact hm (e2 ▸ hy)
    generalize layNew t ms ((strKind P w).hash x) (.str x tk) = Z at T1 ⊢
    obtain ⟨ms1, t1, was, gave⟩ := Z
    dsimp only at T1 ⊢
    refine wpAny_bind (quietly _ ?_)
    split
    · refine wpAny_bind ?_
      rw [hashByValue_scannable 8 sc]
      refine wpAny_pure ?_
      refine stored (fun b _ _ q => quietly b q) ho hx hd (xs := addS xs x) ?_ fun h' sb r => ?_
      · first | exact T1 | (split <;> first | exact T1 | exact ⟨T1.mem, T1.perm, T1.nd, T1.few, SetTable.fits_plain_off T1.fit, T1.ris, T1.ord⟩)
      · dsimp only
        exact wpAny_pure (hQ h' sb r _)
    · refine wpAny_bind (wpAny_pure ?_)
      simp only [↓reduceIte]
      refine stored (fun b _ _ q => quietly b q) ho hx hd T1 fun h' sb r => ?_
      dsimp only
      exact wpAny_pure (hQ h' sb r _)
theorem put {x : Str} {tk : Tok} {Q : Value → Shared → Prop} (R : SetS w s.heap a xs) (room : xs.length + 1 < scanBound)
    (hQ : ∀ h' tk', Heap.SameBut a s.heap h' → SetS w h' a (addS xs x) → Q .none { s with heap := h', toks := tk' }) : wpAny (model P w) A (call (.builtin "set.add") [.ref a, .str x tk]) Q E s := by
  refine wpAny_call_entry F.slot_set_add (R.of (P := P)).typeIs F.entry_set_add ?_ (F.args_set_add_2 _ _)
  unfold Builtin.«set.add» Builtin.Frozenset.oneOther
  simp only [List.isEmpty_nil, bind_assoc]
  unfold Builtin.Frozenset.addrOf setAdd
  refine wpAny_bind (wpAny_pure (wpAny_bind (wpAny_pure (wpAny_bind (wpAny_holding (wpAny_bind ((strKind P w).pyHash (strKind_is P w x tk) ?_)))))))
  refine put1 (s := { s with toks := s.toks + 1 }) R room fun h' sb r b => ?_
  show wpAny _ _ (ret Value.none) _ _ _
  exact wpAny_pure ⟨_, rfl, hQ h' _ sb r⟩
theorem SetS.new {h : Heap} (w : World) : SetS w (h.push { cls := .type "set", dict := none, data := .set #[] 0 (.fresh 0 0 (!w.params.followText "set-order")) }) h.objs.size [] := by
  refine ⟨_, #[], 0, _, Heap.get?_push_size _ rfl, ⟨rfl, rfl, rfl⟩, rfl, ⟨(fun m hm => by cases hm), List.Perm.nil, List.nodup_nil, by decide, rfl, List.Pairwise.nil, ?_⟩⟩
  show w.params.followText "set-order" = true ∨ (!w.params.followText "set-order") = true
  cases w.params.followText "set-order"
  · exact .inr rfl
  · exact .inl rfl
end
/-- the set of the texts xs, as what is tracked -/
def SO (w : World) (a : Addr) (xs : List Str) : HO := .ext fun h => SetS w h a xs
theorem SO.mk {P : Program} {w : World} {H : Hp} {h : Heap} {a : Addr} {xs : List Str} (R : SetS w h a xs) : ObjOk P w H h a (SO w a xs) := by
  obtain ⟨o, ms, ep, t, ho, r⟩ := id R
  exact ⟨R, ⟨o, ho⟩, fun h1 h2 ⟨o1, m1, e1, t1, g1, r1⟩ k => ⟨o1, m1, e1, t1, k o1 g1, r1⟩⟩
section
variable {X : Cx} {pins : List (Addr × Obj)} {σ : L2.St} {H : Hp} {s : Shared}
theorem SO.at {a : Addr} {xs : List Str} (I : Inv X pins σ H s) (ha : H a = some (SO X.w a xs)) : SetS X.w s.heap a xs := (I.hok a _ ha).1
theorem SO.put {E : Value → Shared → Prop} {A : Around} {D : Addr} {xs : List Str} {x : Str} {tk : Tok} {Q : Value → Shared → Prop} (I : Inv X pins σ H s) (hD : H D = some (SO X.w D xs)) (room : xs.length + 1 < scanBound)
    (h : ∀ s', Inv X pins σ (upd H D (SO X.w D (addS xs x))) s' → Q .none s') : wpAny (model X.prog X.w) A (call (.builtin "set.add") [.ref D, .str x tk]) Q E s := by
  refine FS.put (SO.at I hD) room fun h' tk' sb r => h _ (I.write (e := D) (t' := tk') (by rw [hD]; trivial) (.inl rfl) (fun b u hb hu => (sb.2 b hb).trans hu) ?_ (SO.mk r))
  obtain ⟨o, _, _, _, ho, _⟩ := r
  exact ⟨o, ho⟩
end
end FS
set_option Elab.async false
set_option linter.all false
set_option maxRecDepth 100000
set_option maxHeartbeats 4000000
namespace FS
open PySem PySem.Spec PyProof.Rows L2
/-! ### {elt for target in iter if ..}, elt a text -/
section
variable {X : Cx}
def tSet (w : World) (wi : TI) (g : TG) (tt : TT) (te : TE) (vs : List Nat) : TE := fun σ H Q => wi σ H fun J H1 => ∀ D, H1 D = none →
  ∃ W : Nat → Nat → Hp → Prop, (∃ m, W 0 m (upd H1 D (SO w D []))) ∧ ∀ i m H2, W i m H2 → (J.stop i H2 ∧ Q (.ref D) H2) ∨
    (J.go i H2 ∧ ∃ Nx : Hp → Prop, (∀ H', Nx H' → ∃ m', m' < m ∧ W (i + 1) m' H') ∧ ∀ x H3, J.yld i H2 x H3 → g x (wipe σ vs) H3 fun σ2 H4 => wipe σ2 vs = wipe σ vs ∧ tt σ2 H4 fun b H5 =>
      if b = true then te σ2 H5 fun y H6 => ∃ (z : Str) (xs : List Str), y = .str z ∧ H6 D = some (SO w D xs) ∧ xs.length + 1 < scanBound ∧ Nx (upd H6 D (SO w D (addS xs z))) else Nx H5)
theorem pe_set {elt tg iter : Expr} {ifs : List Expr} {scope : Scope} {own : List (PySem.Str × Nat)} {pos : Pos} {wi : TI} {g : TG} {tt : TT} {te : TE} (hc : X.calm = true) (hN : X.N.Nodup) (hi : PI X tg iter wi) (ok : BlkOk X.N X.env.scope scope own)
    (hg : ∀ (s : Shared) (H : Hp) (C : Addr) (cl : List (PySem.Str × Addr)) (fp : List Addr), PG (X.blk s H scope (compEnvC scope cl C X.env) fp) tg g)
    (ht : ∀ (s : Shared) (H : Hp) (C : Addr) (cl : List (PySem.Str × Addr)) (fp : List Addr), PTs (X.blk s H scope (compEnvC scope cl C X.env) fp) ifs tt)
    (he : ∀ (s : Shared) (H : Hp) (C : Addr) (cl : List (PySem.Str × Addr)) (fp : List Addr), PE (X.blk s H scope (compEnvC scope cl C X.env) fp) elt te) (hs : ∀ x, foldedSetIterable iter X.env x = pure x := by intro _; rfl) :
    PE X (.SetComp elt [⟨tg, iter, ifs, 0⟩] scope pos) (tSet X.w wi g tt te (own.map (·.2))) := by
  refine ⟨fun pins s σ H Q I h => ?_⟩
  rw [PpSet.eval_SetComp]
  have hfree : ∀ y ∈ scope.names, y.2 = .free → ∃ c, X.env.cells.lookup y.1 = some c := fun y hy e => by
    rcases ok.free y hy e with k | k
    · exact I.ok.has _ (.inl k)
    · exact I.ok.has _ (.inr k)
  refine wpAny_comprehension_free (use := none) rfl hs (closure_ok hfree) ok.kind (fun y hy e => by rw [ok.uniq y hy, e]) (thn (hi.run pins s σ H _ I h) fun xv s1 hx => thn hx fun itv s2 h2 => ?_)
  obtain ⟨it, fp, tn, J, H2, rfl, I2, T, st2, f2, q⟩ := h2
  refine PpSet.newSet_ok (newEnv_comp ?_)
  obtain ⟨D, eD⟩ : ∃ D, s2.heap.objs.size = D := ⟨_, rfl⟩
  rw [eD]
  have hDn : H2 D = none := I2.hok.fresh (Nat.le_of_eq eD)
  obtain ⟨W, ⟨m0, w0⟩, turn⟩ := q D hDn
  obtain ⟨s3, es3⟩ : ∃ s3 : Shared, { s2 with heap := s2.heap.push { cls := .type "set", dict := none, data := .set #[] 0 (.fresh 0 0 (!X.w.params.followText "set-order")) } } = s3 := ⟨_, rfl⟩
  have kept : ∀ b o, s2.heap.get? b = some o → s3.heap.get? b = some o := fun b o e => by
    rw [← es3]
    exact Heap.get?_push_of_some _ e
  have grown : s3.heap.objs.size = s2.heap.objs.size + 1 := by
    rw [← es3]
    exact Heap.size_push ..
  have I3 : Inv X pins σ (upd H2 D (SO X.w D [])) s3 := by
    rw [← es3]
    refine I2.laid (t' := s2.toks) (fun b o e => Heap.get?_push_of_some _ e) (Nat.le_of_eq eD) (SO.mk ?_)
    rw [← eD]
    exact SetS.new X.w
  rw [es3]
  clear es3
  have below : ∀ b ∈ fp, b < s2.heap.objs.size := fun b hb => by
    obtain ⟨o, e, _⟩ := T.obj _ _ st2 b hb
    exact Heap.lt_size e
  obtain ⟨H3, eH3⟩ : ∃ H3, upd H2 D (SO X.w D []) = H3 := ⟨_, rfl⟩
  have f3 : ∀ b ∈ fp, FpOk X pins H3 b ∧ b < s3.heap.objs.size := fun b hb => by
    have lt := below b hb
    have ne : b ≠ D := fun z => Nat.lt_irrefl _ (by rw [z, ← eD] at lt; exact lt)
    refine ⟨⟨?_, (f2 b hb).2⟩, by rw [grown]; exact Nat.lt_succ_of_lt lt⟩
    rw [← eH3, upd_ne ne]
    exact (f2 b hb).1
  rw [eH3] at I3 w0
  have st3 : tn 0 s3.heap := T.keep _ _ _ st2 fun b _ o e => kept b o e
  have I4 := block_start I3 ok hN f3
  have pg := hg s3 H3 s3.heap.objs.size (cellsFrom (s3.heap.objs.size + 1) scope.names (cloFrom X.env.cells scope.names [])) fp
  have pt := ht s3 H3 s3.heap.objs.size (cellsFrom (s3.heap.objs.size + 1) scope.names (cloFrom X.env.cells scope.names [])) fp
  have pe := he s3 H3 s3.heap.objs.size (cellsFrom (s3.heap.objs.size + 1) scope.names (cloFrom X.env.cells scope.names [])) fp
  obtain ⟨ce, ece⟩ : ∃ ce, compEnvC scope (cellsFrom (s3.heap.objs.size + 1) scope.names (cloFrom X.env.cells scope.names [])) s3.heap.objs.size X.env = ce := ⟨_, rfl⟩
  obtain ⟨s4, es4⟩ : ∃ s4 : Shared, { s3 with heap := pushCells (s3.heap.push { cls := .type "dict", data := .dict #[] }) scope.names } = s4 := ⟨_, rfl⟩
  have locals : ce.locals = s3.heap.objs.size := by
    rw [← ece]
    rfl
  have st4 : tn 0 s4.heap := T.keep _ _ _ st3 fun b _ o e => by
    rw [← es4]
    exact pushCells_keeps _ _ _ _ (Heap.get?_push_of_some _ e)
  rw [ece] at I4 pg pt pe
  rw [es4] at I4
  have none3 : ∀ b ∈ fp, H3 b = none := fun b hb => (f3 b hb).1.1
  have still : ∀ {σ' : L2.St} {H' : Hp} {s' : Shared}, Inv (X.blk s3 H3 scope ce fp) [] σ' H' s' → (∀ b ∈ fp, H' b = none) → ∀ b ∈ fp, FpOk (X.blk s3 H3 scope ce fp) [] H' b := fun {σ' H' s'} I' hn b hb =>
    ⟨hn b hb, (I'.ok.exf b hb).1, I'.ok.exfs b hb, .inl hb, fun x c e => (I'.ok.exf b hb).2 x c e, fun p hp => absurd (show p ∈ ([] : List (Addr × Obj)) ++ [] from hp) (by simp)⟩
  show codeAny _ _ (.compStart (.SetComp elt [⟨tg, iter, ifs, 0⟩] scope pos) 0 (.ref it) (.ref D) (compEnvC scope (cellsFrom (s3.heap.objs.size + 1) scope.names (cloFrom X.env.cells scope.names [])) s3.heap.objs.size X.env)) _ { s3 with heap := pushCells (s3.heap.push { cls := .type "dict", data := .dict #[] }) scope.names }
  rw [ece, es4]
  refine PpSet.codeAny_compStart_set ?_ (T.self X.A 0 _ _ _ st4 ?_)
  all_goals
    refine PpSet.compLoopS_any (fun n s' => ∃ i H', Inv (X.blk s3 H3 scope ce fp) [] (wipe σ (own.map (·.2))) H' s' ∧ tn i s'.heap ∧ (∀ b ∈ fp, H' b = none) ∧ W i n H') ?_ m0 ⟨0, H3, I4, st4, none3, w0⟩
    rintro n s5 ⟨i, H5, I5, st5, n5, w5⟩
    rcases turn i n H5 w5 with ⟨stop, qq⟩ | ⟨go, Nx, hNx, step⟩
    · refine thnF (T.done (X.blk s3 H3 scope ce fp) rfl rfl rfl hc i [] s5 _ H5 (fun _ _ => False) I5 (still I5 n5) st5 stop) fun r s6 ⟨hr, I6⟩ => ?_
      subst hr
      have I7 : Inv X pins σ H5 s6 := I3.call' (ch := fp) I6.os I6.base I6.hok I6.bare fun b hb => ⟨(f3 b hb).1.2.2.2.1, (f3 b hb).1.2.1, (f3 b hb).1.2.2.2.2.1, (f3 b hb).1.2.2.2.2.2⟩
      have nC : H5 s3.heap.objs.size = none := by
        have z : H5 ce.locals = none := I6.free
        rw [locals] at z
        exact z
      obtain ⟨m, hn, _⟩ := I6.loc
      have hn : s6.heap.Ns ce.locals m := hn
      rw [locals] at hn
      obtain ⟨g0, g1, g2, g3, g4, g5⟩ := I3.fpOk (Nat.le_refl _) nC
      exact ⟨m, hn, fun h'' sb => ⟨.ref D, H5, I7.turned (t' := s6.toks) (fun b o hb e => (sb.2 b hb).trans e) g0 g1 g3 g4 g5, rfl, qq⟩⟩
    · refine thnF (T.item (X.blk s3 H3 scope ce fp) rfl rfl rfl hc i [] s5 _ H5 (fun _ _ => False) I5 (still I5 n5) st5 go) fun r s6 ⟨u, hr, h6⟩ => ?_
      subst hr
      refine thnF h6 fun _ s7 ⟨x, H7, I7, r7, y7, st7, n7⟩ => ?_
      refine thnF (pg.run _ s7 _ H7 x u _ (I7.pinned (still I7 n7) (T.obj _ _ st7)) r7 (step x H7 y7)) fun _ s8 ⟨σ8, H8, I8, hw8, q8⟩ => ?_
      refine thnF (pt.run _ s8 σ8 H8 _ I8 q8) fun b s9 ⟨H9, I9, q9⟩ => ?_
      have fin : ∀ {s' : Shared} {H' : Hp}, Inv (X.blk s3 H3 scope ce fp) ([] ++ pinsAt fp s7.heap) σ8 H' s' → Nx H' → ∃ m, m < n ∧ ∃ i H', Inv (X.blk s3 H3 scope ce fp) [] (wipe σ (own.map (·.2))) H' s' ∧ tn i s'.heap ∧ (∀ b ∈ fp, H' b = none) ∧ W i m H' := fun {s' H'} I' nx => by
        obtain ⟨m', hm, w'⟩ := hNx H' nx
        have pinned : ∀ b ∈ fp, ∀ o, s7.heap.get? b = some o → s'.heap.get? b = some o ∧ H' b = none := fun b hb o e =>
          let z := I'.pin (b, o) (List.mem_append_right _ (List.mem_append_right _ (mem_pinsAt hb e)))
          ⟨z.1, z.2.1⟩
        refine ⟨m', hm, i + 1, H', (I'.unpinned (pins := [])).weak (by rw [← hw8, wipe_length]) (fun j v e => ?_), T.keep _ _ _ st7 fun b hb o e => (pinned b hb o e).1, fun b hb => ?_, w'⟩
        · rw [← hw8] at e
          exact (wipe_some e).1
        · obtain ⟨o, e, _⟩ := T.obj _ _ st7 b hb
          exact (pinned b hb o e).2
      cases b with
      | false =>
        rw [if_neg Bool.false_ne_true] at q9 ⊢
        exact fin I9 q9
      | true =>
        rw [if_pos rfl] at q9 ⊢
        refine thnF (pe.run _ s9 σ8 H9 _ I9 q9) fun z s10 ⟨yv, H10, I10, r10, zt, zs, ey, hD10, hz10, nx⟩ => ?_
        subst ey
        obtain ⟨tk, rfl⟩ := (show ∃ tk, z = Value.str zt tk from r10)
        exact SO.put (X := X.blk s3 H3 scope ce fp) I10 hD10 hz10 fun s11 I11 => fin I11 nx
end
end FS
set_option Elab.async false
set_option linter.all false
set_option maxRecDepth 100000
set_option maxHeartbeats 4000000
namespace FS
open PySem PySem.Spec PyProof.Rows L2
theorem strs_members {w : World} : ∀ (ms : List (Int × Value)) (vs : List Value), (∀ m ∈ ms, Mem1 w m) → vs.Perm (ms.map (·.2)) → ∃ ys : List Str, StrsAre vs ys ∧ ys.Perm (ms.map txt) := fun ms vs h p => by
  have all : ∀ v ∈ vs, ∃ x t, v = Value.str x t := fun v hv => by
    obtain ⟨m, hm, e⟩ := List.mem_map.mp (p.mem_iff.mp hv)
    obtain ⟨x, tk, rfl⟩ := h m hm
    exact ⟨x, tk, e.symm⟩
  refine ⟨vs.map strOf, strsAre_map vs all, (p.map strOf).trans (List.Perm.of_eq ?_)⟩
  rw [List.map_map]
  refine List.map_congr_left fun m hm => ?_
  obtain ⟨x, tk, rfl⟩ := h m hm
  rfl
section
variable {P : Program} {w : World} {A : Around} {E : Value → Shared → Prop} {s : Shared} {a : Addr} {xs : List Str}
theorem ranked {Q : Value → Shared → Prop} (R : SetS w s.heap a xs) (hh : A.handled = none) (hz : xs.length ≤ 4096)
    (hQ : ∀ s' p (out : Array Value) (c : Nat) (ys : List Str), (∀ b o, s.heap.get? b = some o → s'.heap.get? b = some o) → s'.gens = s.gens → s'.os = s.os → s.heap.objs.size ≤ p →
      s'.heap.get? p = some (seqObj "list" out c) → StrsAre out.toList ys → ys.Perm xs → sortedS ys = true → Q (.ref p) s') : wpAny (model P w) A (call (.builtin "sorted") [.ref a]) Q E s := by
  obtain ⟨o, ms, ep, t, ho, hx, hd, T⟩ := R
  refine Calls.call_function_entry kind_sorted plain_sorted entry_sorted (args_sorted1 _) ?_
  unfold Builtin.«sorted»
  refine wpAny_bind (m := checkCount "sorted" 1 1 _) (wpAny_pure (wpAny_bind (collect_set (A := A.in1) hh ⟨o, ho, hx.1, hd⟩ T.fit T.few T.ris T.ord fun s1 vs k1 z1 g1 o1 pm => ?_)))
  obtain ⟨zs, hS, pz⟩ := strs_members ms.toList vs T.mem pm
  have len : vs.length = xs.length := by
    rw [pm.length_eq, List.length_map, Array.length_toList]
    exact T.size
  have le : vs.length ≤ sizeLine := by
    rw [sizeLine_eq]
    omega
  refine wpAny_bind (wpAny_newList ?_ le)
  have hL : (s1.heap.push (seqObj "list" vs.toArray 0)).get? s1.heap.objs.size = some (seqObj "list" vs.toArray 0) := Heap.get?_push_size _ rfl
  refine wpAny_bind (wpAny_holding (wpAny_call_entry slot_list_sort ⟨_, hL, rfl⟩ entry_list_sort (list_sort_treeKAny strKind_oneLt hL hS.keysOf (fun v1 v2 rest e => keyKind_strs (by rw [← e]; exact hS)) le fun st' hp hs => ?_) (args_list_sort _)))
  obtain ⟨ys, h1, h2, h3⟩ := sorted_out_str hS hp hs
  obtain ⟨c, hc⟩ := sortedHeap_at (vs := vs) (out := (arrOf st').map (·.2)) hL
  refine ⟨.none, rfl, wpAny_pure ⟨.ref s1.heap.objs.size, rfl, hQ _ s1.heap.objs.size _ c ys (fun b u e => ?_) g1 o1 z1 hc h1 (h2.trans (pz.trans T.perm)) h3⟩⟩
  have q := k1 b u e
  have lt := Heap.lt_size q
  show (sortedHeap (s1.heap.push (seqObj "list" vs.toArray 0)) s1.heap.objs.size vs _).get? b = some u
  rw [sortedHeap_old (Nat.ne_of_lt lt) (by rw [size_push']; exact Nat.lt_succ_of_lt lt)]
  exact Heap.get?_push_of_some _ q
end
section
variable {X : Cx}
/-- sorted(a set of texts) -/
theorem cr_ranked (hc : X.calm = true) : CallR X (.builtin "sorted") (fun vs H Q => ∃ (a : Addr) (xs : List Str), vs = [V.ref a] ∧ H a = some (SO X.w a xs) ∧ xs.length ≤ 4096 ∧
    ∀ (ys : List Str) (p : Addr), ys.Perm xs → sortedS ys = true → H p = none → Q (.ref p) (upd H p (.lst (ys.map V.str)))) := by
  intro pins s σ H vs us Q I r h
  obtain ⟨a, xs, rfl, ha, hz, q⟩ := h
  rw [Vals.ref1 r]
  refine ranked (SO.at I ha) (I.ok.hd hc) hz fun s' p out c ys k g o hp hg hi pm hs => ?_
  have le : (ys.map V.str).length ≤ sizeLine := by
    rw [List.length_map, pm.length_eq, sizeLine_eq]
    omega
  have hn : H p = none := I.hok.fresh hp
  have J : Inv X pins σ (upd H p (.lst (ys.map V.str))) { s with heap := s'.heap, gens := s'.gens, drawn := s'.drawn, toks := s'.toks } :=
    I.call (ch := []) (Un.laid k hp hn) (I.hok.laid k hp ⟨le, out.toList, c, vals_of_strs hi, hg⟩) (by rw [g]; exact I.bare) (fun _ z => nomatch z)
  have e : s' = { s with heap := s'.heap, gens := s'.gens, drawn := s'.drawn, toks := s'.toks } := by
    obtain ⟨_, _, _, _, _⟩ := s'
    obtain ⟨_, _, _, _, _⟩ := s
    cases o
    rfl
  rw [e]
  exact ⟨.ref p, _, J, rfl, q ys p pm hs hn⟩
/-- len(a set of texts) -/
theorem cr_many : CallR X (.builtin "len") (fun vs H Q => ∃ (a : Addr) (xs : List Str), vs = [V.ref a] ∧ H a = some (SO X.w a xs) ∧ Q (.int xs.length) H) := by
  intro pins s σ H vs us Q I r h
  obtain ⟨a, xs, rfl, ha, q⟩ := h
  rw [Vals.ref1 r]
  obtain ⟨o, ms, ep, t, ho, hx, hd, T⟩ := SO.at I ha
  have e := T.size
  refine call_len_set ho hx hd T.fit (by have := T.few; have l : scanBound ≤ 2 ^ 62 := by decide
                                         omega) ⟨.int xs.length, H, I.tok _, ⟨_, by rw [e]⟩, q⟩
end
end FS
set_option Elab.async false
set_option linter.all false
set_option maxRecDepth 100000
set_option maxHeartbeats 4000000
namespace FS
open PySem PySem.Spec PyProof.Rows L2
/-! ### rules -/
section
variable {X : Cx}
def rInT (K : PySem.W.Frag) (neg : Bool) : R2 := fun x y H Q => ∃ d ds, Dp K H x d ∧ Dp K H y (.tuple ds) ∧ SeqAt.shaped d = true ∧ SeqAt.shaped (.tuple ds) = true ∧ Q (.bl (if neg then !(ds.any fun z => PyData.eqv z d) else ds.any fun z => PyData.eqv z d)) H
theorem op_inT (hu : X.A.units + 65 < cLine) : OpR X (compareOp .In) (rInT X.K false) := by
  intro pins s σ H x y v u Q I rx ry h
  obtain ⟨d, ds, hd, he, sd, se, q⟩ := h
  obtain ⟨as, r1⟩ := Dp.reads I d x v hd rx
  obtain ⟨bs, r2⟩ := Dp.reads I (.tuple ds) y u he ry
  exact SeqAt.in_tuple_reads r2 r1 (SeqAt.canLay_of_shaped se) (SeqAt.canLay_of_shaped sd) (room_in_shaped sd hu) ⟨.bl _, H, I, rfl, q⟩
theorem mulTup0 (l : Addr) (items : Array Value) (n : Nat) (dd : Option Addr) (sl : Array (Option Value)) (u : Tok) (hi : items.isEmpty = false) :
    Meets (Builtin.«tuple.__mul__» ⟨[.ref l, .int 0 u], []⟩) (fun _ R s => s.heap.get? l = some { cls := .type "tuple", dict := dd, data := .seq items n, slots := sl } ∧
      R (.ok (.ret (Value.ref s.heap.objs.size))) { s with heap := s.heap.push { cls := Value.type "tuple", data := Data.seq #[] }, toks := s.toks }) :=
  .of_wp fun prog w A R s h => by
    obtain ⟨hp, g, d, tk, os⟩ := s
    obtain ⟨hl, h⟩ := h
    have f1 := AutoSeq1.idx_int
    wp_walk using wpAny_loadPart' hl
    repeat (first
      | (refine wpAny_ite_false (by decide) ?_; wp_walk using wpAny_loadPart' hl)
      | (refine wpAny_ite_false (decide_eq_false (by rw [hi]; decide)) ?_; wp_walk using wpAny_loadPart' hl)
      | (refine wpAny_ite_true (by decide) ?_; wp_walk using wpAny_loadPart' hl))
    exact ⟨_, rfl, h⟩
theorem mulTup1 (l : Addr) (items : Array Value) (n : Nat) (dd : Option Addr) (sl : Array (Option Value)) (u : Tok) (hi : items.isEmpty = false) :
    Meets (Builtin.«tuple.__mul__» ⟨[.ref l, .int 1 u], []⟩) (fun _ R s => s.heap.get? l = some { cls := .type "tuple", dict := dd, data := .seq items n, slots := sl } ∧ R (.ok (.ret (Value.ref l))) s) :=
  .of_wp fun prog w A R s h => by
    obtain ⟨hp, g, d, tk, os⟩ := s
    obtain ⟨hl, h⟩ := h
    have f1 := AutoSeq1.idx_int
    wp_walk using wpAny_loadPart' hl
    repeat (first
      | (refine wpAny_ite_false (by decide) ?_; wp_walk using wpAny_loadPart' hl)
      | (refine wpAny_ite_true (by rw [hi]; decide) ?_; wp_walk using wpAny_loadPart' hl)
      | (refine wpAny_ite_true (by decide) ?_; wp_walk using wpAny_loadPart' hl))
    exact ⟨_, rfl, h⟩
/-- tuple * int, any count from 0 on -/
def rRepA (K : PySem.W.Frag) : R2 := fun x y H Q => ∃ (l : Addr) (k : Nat) (xs : List V), x = .ref l ∧ y = .int (k : Int) ∧ SqT K H l xs ∧ xs ≠ [] ∧ k ≤ 1000 ∧ xs.length ≤ 1000 ∧ ∀ p H', Same H H' → SqT K H' p (List.replicate k xs).flatten → Q (.ref p) H'
theorem same_upd {H : Hp} {p : Addr} {o : HO} (h : H p = none) : Same H (upd H p o) := fun b x e => by
  rw [upd_ne (ne_of_none e h)]
  exact e
theorem op_repA : OpR X (binaryOp .Mult) (rRepA X.K) := by
  intro pins s σ H x y v u Q I rx ry h
  obtain ⟨l, k, xs, rfl, rfl, hT, hne, hk, hz, q⟩ := h
  by_cases h2 : 2 ≤ k
  · exact op_repT pins s σ H (.ref l) (.int k) v u Q I rx ry ⟨l, k, xs, rfl, rfl, hT, hne, by omega, by omega, hz, fun p np => q p _ (same_upd np) (.inl (.inl (by
      rw [upd_same]
      rfl)))⟩
  · cases rx
    obtain ⟨t, rfl⟩ := ry
    obtain ⟨its, r, ⟨⟨cls, dd, data, sl⟩, ho, hc, n, hd⟩, hs⟩ := I.tuple hT
    simp only at hc hd
    subst hc hd
    have hi : its.toArray.isEmpty = false := by
      cases its with
      | nil =>
        cases r
        exact absurd rfl hne
      | cons a b => rfl
    have k01 : k = 0 ∨ k = 1 := by omega
    rcases k01 with rfl | rfl
    · refine wpAny_binaryOp_repeat_ref (T := "tuple") (U := "int") (by decide) ⟨_, ho, rfl⟩ (fun s' => typeIs_int s' _ t) noFill_tuple_mul F.fills_int_mul F.slot_int_rmul repeat_tuple F.slot_int_index.lookup
        (call_meets F.slot_int_rmul (typeIs_int s _ t) F.entry_int_rmul (F.args_int_rmul_2 _ _) (int_rmul_tuple _ t l its.toArray n dd sl)
          ⟨ho, rfl, ⟨_, ho, rfl⟩, call_meets F.slot_tuple_mul ⟨_, ho, rfl⟩ F.entry_tuple_mul (F.args_tuple_mul_2 _ _) (mulTup0 l its.toArray n dd sl t hi) ⟨ho, ?_⟩⟩)
      have np : H s.heap.objs.size = none := I.hok.fresh (Nat.le_refl _)
      exact ⟨.ref _, upd H s.heap.objs.size (.tup []), I.laid (t' := s.toks) (fun b o e => Heap.get?_push_of_some _ e) (Nat.le_refl _) ⟨Nat.zero_le _, [], .nil, _, Heap.get?_push_size _ rfl, rfl, 0, rfl⟩, rfl, q _ _ (same_upd np) (.inl (.inl upd_same))⟩
    · refine wpAny_binaryOp_repeat_ref (T := "tuple") (U := "int") (by decide) ⟨_, ho, rfl⟩ (fun s' => typeIs_int s' _ t) noFill_tuple_mul F.fills_int_mul F.slot_int_rmul repeat_tuple F.slot_int_index.lookup
        (call_meets F.slot_int_rmul (typeIs_int s _ t) F.entry_int_rmul (F.args_int_rmul_2 _ _) (int_rmul_tuple _ t l its.toArray n dd sl)
          ⟨ho, rfl, ⟨_, ho, rfl⟩, call_meets F.slot_tuple_mul ⟨_, ho, rfl⟩ F.entry_tuple_mul (F.args_tuple_mul_2 _ _) (mulTup1 l its.toArray n dd sl t hi) ⟨ho, ?_⟩⟩)
      exact ⟨.ref l, H, I, rfl, q l H (.refl H) (by
        show SqT X.K H l ([xs].flatten)
        rw [List.flatten_singleton]
        exact hT)⟩
end
/-! ### data that stays -/
theorem Same.sqT {K : PySem.W.Frag} {H H' : Hp} {a : Addr} {xs : List V} (e : Same H H') (h : SqT K H a xs) : SqT K H' a xs := by
  rcases h with (h | ⟨o, h⟩) | h
  · exact .inl (.inl (e _ _ h))
  · exact .inl (.inr ⟨o, e _ _ h⟩)
  · exact .inr h
/-- all but lists is as it was -/
def Stay (H H' : Hp) : Prop := ∀ b o, (∀ xs, o ≠ .lst xs) → H b = some o → H' b = some o
theorem Stay.of {H H' : Hp} (e : Same H H') : Stay H H' := fun b o _ h => e b o h
theorem Stay.trans {H H1 H2 : Hp} (a : Stay H H1) (b : Stay H1 H2) : Stay H H2 := fun c o n h => b c o n (a c o n h)
theorem Stay.sqT {K : PySem.W.Frag} {H H' : Hp} {a : Addr} {xs : List V} (e : Stay H H') (h : SqT K H a xs) : SqT K H' a xs := by
  rcases h with (h | ⟨o, h⟩) | h
  · exact .inl (.inl (e _ _ (fun _ z => by cases z) h))
  · exact .inl (.inr ⟨o, e _ _ (fun _ z => by cases z) h⟩)
  · exact .inr h
mutual
/-- data without lists -/
def noL : PyData → Bool
  | .list _ => false
  | .tuple ds => noLs ds
  | _ => true
def noLs : List PyData → Bool
  | [] => true
  | d :: r => noL d && noLs r
end
mutual
theorem Dp.stay {K : PySem.W.Frag} {H H' : Hp} (e : Stay H H') : ∀ {v : V} {d : PyData}, noL d = true → Dp K H v d → Dp K H' v d
  | _, _, _, .non => .non
  | _, _, _, .bl b => .bl b
  | _, _, _, .int i => .int i
  | _, _, _, .str x => .str x
  | _, _, n, .lst _ _ => by cases n
  | _, _, n, .tup h r => .tup (e.sqT h) (DpAll.stay e n r)
theorem DpAll.stay {K : PySem.W.Frag} {H H' : Hp} (e : Stay H H') : ∀ {vs : List V} {ds : List PyData}, noLs ds = true → DpAll K H vs ds → DpAll K H' vs ds
  | _, _, _, .nil => .nil
  | _, _, n, .cons h r => by
    have n2 := Bool.and_eq_true_iff.mp (show (noL _ && noLs _) = true from n)
    exact .cons (Dp.stay e n2.1 h) (DpAll.stay e n2.2 r)
end
theorem DpAll.get {K : PySem.W.Frag} {H : Hp} : ∀ {vs : List V} {ds : List PyData}, DpAll K H vs ds → ∀ {i : Nat} {v : V}, vs[i]? = some v → ∃ d, ds[i]? = some d ∧ Dp K H v d
  | _, _, .nil, i, v, h => by simp at h
  | _, _, .cons h r, 0, v, e => ⟨_, rfl, by
      rw [← Option.some.inj e]
      exact h⟩
  | _, _, .cons h r, i + 1, v, e => DpAll.get r e
theorem DpAll.put {K : PySem.W.Frag} {H : Hp} : ∀ {vs : List V} {ds : List PyData}, DpAll K H vs ds → ∀ {i : Nat} {d : PyData}, ds[i]? = some d → ∃ v, vs[i]? = some v ∧ Dp K H v d
  | _, _, .nil, i, v, h => by simp at h
  | _, _, .cons h r, 0, v, e => ⟨_, rfl, by
      rw [← Option.some.inj e]
      exact h⟩
  | _, _, .cons h r, i + 1, v, e => DpAll.put r e
theorem DpAll.len {K : PySem.W.Frag} {H : Hp} : ∀ {vs : List V} {ds : List PyData}, DpAll K H vs ds → vs.length = ds.length
  | _, _, .nil => rfl
  | _, _, .cons _ r => congrArg (· + 1) (DpAll.len r)
theorem DpAll.app {K : PySem.W.Frag} {H : Hp} : ∀ {vs : List V} {ds : List PyData}, DpAll K H vs ds → ∀ {ws es}, DpAll K H ws es → DpAll K H (vs ++ ws) (ds ++ es)
  | _, _, .nil, _, _, r => r
  | _, _, .cons h r, _, _, r2 => .cons h (DpAll.app r r2)
theorem DpAll.drop {K : PySem.W.Frag} {H : Hp} : ∀ (n : Nat) {vs : List V} {ds : List PyData}, DpAll K H vs ds → DpAll K H (vs.drop n) (ds.drop n)
  | 0, _, _, r => r
  | n + 1, _, _, .nil => .nil
  | n + 1, _, _, .cons _ r => DpAll.drop n r
theorem ty_tup {K : PySem.W.Frag} {H : Hp} {a : Addr} {xs : List V} (h : SqT K H a xs) : TyX K H (.ref a) (.type "tuple") := by
  rcases h with (h | ⟨o, h⟩) | ⟨o, its, n, h, c, _⟩
  · exact .base (.tup h)
  · exact .fTuple h
  · exact .kTuple h c
end FS
set_option Elab.async false
set_option linter.all false
set_option maxRecDepth 100000
set_option maxHeartbeats 4000000
namespace FS
open PySem PySem.Spec PyProof.Rows L2
/-! ### terms and wraps -/
inductive Hd
  | deed (w : Str) (t : List (Option Nat))
  | seq
  | alt
  | run (x : Str)
  | call (n : Str)
  | wrp
  | own (x : Str)
  | wth (n : Str)
inductive Tm
  | mk (h : Hd) (ks : List Tm)
def Tm.hd : Tm → Hd
  | .mk h _ => h
def Tm.kids : Tm → List Tm
  | .mk _ ks => ks
def entryD : Option Nat → PyData
  | none => .none
  | some n => .int n
def Hd.tag : Hd → Str
  | .deed _ _ => "do"
  | .seq => "seq"
  | .alt => "or"
  | .run _ => "run"
  | .call _ => "call"
  | .wrp => "wrap"
  | .own _ => "own"
  | .wth _ => "with"
def Hd.rest : Hd → List PyData
  | .deed w t => [.str w, .tuple (t.map entryD)]
  | .run x => [.str x]
  | .call n => [.str n]
  | .own x => [.str x]
  | .wth n => [.str n]
  | _ => []
mutual
def Tm.data : Tm → PyData
  | .mk h ks => .tuple (.str h.tag :: (h.rest ++ datas ks))
def datas : List Tm → List PyData
  | [] => []
  | t :: r => t.data :: datas r
end
theorem datas_map : ∀ ks : List Tm, datas ks = ks.map Tm.data
  | [] => rfl
  | t :: r => by
    show t.data :: datas r = t.data :: r.map Tm.data
    rw [datas_map r]
theorem datas_app (a b : List Tm) : datas (a ++ b) = datas a ++ datas b := by
  rw [datas_map, datas_map, datas_map, List.map_append]
theorem datas_len (ks : List Tm) : (datas ks).length = ks.length := by
  rw [datas_map, List.length_map]
mutual
/-- a term and all that are in it, in the order in which they begin -/
def Tm.all : Tm → List Tm
  | .mk h ks => .mk h ks :: alls ks
def alls : List Tm → List Tm
  | [] => []
  | t :: r => t.all ++ alls r
end
theorem all_eq (t : Tm) : t.all = t :: alls t.kids := by
  cases t
  rfl
def Tm.count (t : Tm) : Nat := t.all.length
def counts (ks : List Tm) : Nat := (alls ks).length
theorem count_eq (t : Tm) : t.count = 1 + counts t.kids := by
  unfold Tm.count
  rw [all_eq]
  show counts t.kids + 1 = _
  omega
theorem counts_cons (t : Tm) (r : List Tm) : counts (t :: r) = t.count + counts r := by
  show (t.all ++ alls r).length = _
  rw [List.length_append]
  rfl
theorem counts_app (a b : List Tm) : counts (a ++ b) = counts a + counts b := by
  induction a with
  | nil => simp [counts, alls]
  | cons t r ih =>
    rw [List.cons_append, counts_cons, counts_cons, ih]
    omega
mutual
def Tm.deep : Tm → Nat
  | .mk _ ks => deeps ks + 1
def deeps : List Tm → Nat
  | [] => 0
  | t :: r => max t.deep (deeps r)
end
theorem deeps_mem : ∀ {ks : List Tm} {t : Tm}, t ∈ ks → t.deep ≤ deeps ks
  | u :: r, t, h => by
    show t.deep ≤ max u.deep (deeps r)
    rcases List.mem_cons.mp h with rfl | h
    · omega
    · have := deeps_mem h
      omega
theorem deep_kid {t u : Tm} (h : u ∈ t.kids) : u.deep < t.deep := by
  cases t with
  | mk hd ks =>
    have := deeps_mem (show u ∈ ks from h)
    show u.deep < deeps ks + 1
    omega
def Hd.isW : Hd → Bool
  | .own _ => true
  | .wth _ => true
  | _ => false
def Tm.isW (t : Tm) : Bool := t.hd.isW
def kd (b : Bool) : Str := if b then "wrap" else "block"
/-- a name -/
def sgn (c : Nat) : Bool := !decide (([c] : List Nat) < ("a" : Str).cps.toList) && !decide (("z" : Str).cps.toList < [c])
def wordB (z : Str) : Bool := decide (1 ≤ (z.length : Int) ∧ (z.length : Int) ≤ 8) && z.cps.toList.all sgn
/-- what can stand at the head of a term, with some parameters -/
def Hd.ok (own : List (Str × Bool)) : Hd → Nat → Bool
  | .deed w t, n => wordB w && decide (1 ≤ t.length ∧ t.length ≤ 3) && t.all (fun e => match e with | none => true | some n => decide (n < 3)) && decide (n = 0)
  | .seq, _ => true
  | .alt, n => decide (0 < n)
  | .run x, n => decide ((x, false) ∈ own) && decide (n = 0)
  | .call m, _ => wordB m
  | .wrp, n => decide (n = 2)
  | .own x, n => decide ((x, true) ∈ own) && decide (n = 0)
  | .wth m, _ => wordB m
/-- which kinds the kids may have -/
def Hd.kidsOk : Hd → List Bool → Bool
  | .wrp, ks => decide (ks = [true, false])
  | .call _, _ => true
  | .wth _, _ => true
  | _, ks => ks.all (! ·)
/-- a term (or wrap) that is one by its form -/
inductive Good (own : List (Str × Bool)) : Tm → Prop
  | mk {h : Hd} {ks : List Tm} (ok : h.ok own ks.length = true) (kk : h.kidsOk (ks.map Tm.isW) = true) (kids : ∀ t ∈ ks, Good own t) : Good own (.mk h ks)
/-! ### its data can be looked at -/
theorem sgn_asc {c : Nat} (h : sgn c = true) : c < 128 := by
  unfold sgn at h
  obtain ⟨_, h2⟩ := Bool.and_eq_true_iff.mp h
  have h3 : ¬ (("z" : Str).cps.toList < [c]) := by simpa using h2
  have e : ("z" : Str).cps.toList = [122] := by decide +kernel
  rw [e] at h3
  by_cases l : 122 < c
  · exact absurd (List.Lex.rel l) h3
  · omega
theorem word_ok {z : Str} (h : wordB z = true) : PyData.strOk z = true ∧ z.length ≤ 8 := by
  obtain ⟨h1, h2⟩ := Bool.and_eq_true_iff.mp h
  have h3 := of_decide_eq_true h1
  refine ⟨?_, by omega⟩
  unfold PyData.strOk
  rw [← Array.all_toList]
  refine List.all_eq_true.mpr fun c hc => decide_eq_true ?_
  have := sgn_asc (List.all_eq_true.mp h2 c hc)
  omega
end FS
set_option Elab.async false
set_option linter.all false
set_option maxRecDepth 100000
set_option maxHeartbeats 4000000
namespace FS
open PySem PySem.Spec PyProof.Rows L2
theorem entries_plain : ∀ t : List (Option Nat), noLs (t.map entryD) = true ∧ PyData.canLayAll0 (t.map entryD) = true ∧ PyData.depthAll (t.map entryD) = 0
  | [] => ⟨rfl, rfl, rfl⟩
  | none :: r => entries_plain r
  | some n :: r => by
    obtain ⟨h1, h2, h3⟩ := entries_plain r
    refine ⟨h1, h2, ?_⟩
    show max 0 (PyData.depthAll (r.map entryD)) = 0
    rw [h3]
    rfl
theorem noLs_app : ∀ (a b : List PyData), noLs (a ++ b) = (noLs a && noLs b)
  | [], b => rfl
  | d :: r, b => by
    show (noL d && noLs (r ++ b)) = ((noL d && noLs r) && noLs b)
    rw [noLs_app r b, Bool.and_assoc]
theorem lay_app : ∀ (a b : List PyData), PyData.canLayAll0 (a ++ b) = (PyData.canLayAll0 a && PyData.canLayAll0 b)
  | [], b => rfl
  | d :: r, b => by
    show (PyData.canLay0 d && PyData.canLayAll0 (r ++ b)) = ((PyData.canLay0 d && PyData.canLayAll0 r) && PyData.canLayAll0 b)
    rw [lay_app r b, Bool.and_assoc]
theorem depth_app : ∀ (a b : List PyData), PyData.depthAll (a ++ b) = max (PyData.depthAll a) (PyData.depthAll b)
  | [], b => by
    show _ = max 0 _
    simp
  | d :: r, b => by
    show max (PyData.depth d) (PyData.depthAll (r ++ b)) = max (max (PyData.depth d) (PyData.depthAll r)) (PyData.depthAll b)
    rw [depth_app r b]
    omega
theorem rest_plain (h : Hd) : noLs h.rest = true ∧ PyData.depthAll h.rest ≤ 1 := by
  cases h with
  | deed w t =>
    obtain ⟨h1, _, h3⟩ := entries_plain t
    refine ⟨?_, ?_⟩
    · show (true && ((noLs (t.map entryD)) && true)) = true
      rw [h1]
      rfl
    · show max 0 (max (PyData.depthAll (t.map entryD) + 1) 0) ≤ 1
      rw [h3]
      decide
  | seq => exact ⟨rfl, Nat.zero_le _⟩
  | alt => exact ⟨rfl, Nat.zero_le _⟩
  | run x => exact ⟨rfl, Nat.zero_le _⟩
  | call n => exact ⟨rfl, Nat.zero_le _⟩
  | wrp => exact ⟨rfl, Nat.zero_le _⟩
  | own x => exact ⟨rfl, Nat.zero_le _⟩
  | wth n => exact ⟨rfl, Nat.zero_le _⟩
mutual
theorem Tm.noL : ∀ t : Tm, FS.noL t.data = true
  | .mk h ks => by
    show (true && noLs (h.rest ++ datas ks)) = true
    rw [noLs_app, (rest_plain h).1, noL_datas ks]
    rfl
theorem noL_datas : ∀ ks : List Tm, noLs (datas ks) = true
  | [] => rfl
  | t :: r => by
    show (FS.noL t.data && noLs (datas r)) = true
    rw [Tm.noL t, noL_datas r]
    rfl
end
mutual
theorem Tm.depth : ∀ t : Tm, t.data.depth ≤ t.deep + 1
  | .mk h ks => by
    show max 0 (PyData.depthAll (h.rest ++ datas ks)) + 1 ≤ (deeps ks + 1) + 1
    rw [depth_app]
    have h1 := (rest_plain h).2
    have h2 := depth_datas ks
    omega
theorem depth_datas : ∀ ks : List Tm, PyData.depthAll (datas ks) ≤ deeps ks + 1
  | [] => Nat.zero_le _
  | t :: r => by
    show max t.data.depth (PyData.depthAll (datas r)) ≤ max t.deep (deeps r) + 1
    have h1 := Tm.depth t
    have h2 := depth_datas r
    omega
end
/-- what parameters must be -/
structure ParOk (own : List (Str × Bool)) : Prop where
  few : own.length ≤ 3
  nms : ∀ p ∈ own, wordB p.1 = true
  nd : (own.map (·.1)).Nodup
theorem tag_ok (h : Hd) : PyData.strOk h.tag = true := by
  cases h with
  | deed w t => exact (show PyData.strOk "do" = true by decide +kernel)
  | seq => exact (show PyData.strOk "seq" = true by decide +kernel)
  | alt => exact (show PyData.strOk "or" = true by decide +kernel)
  | run x => exact (show PyData.strOk "run" = true by decide +kernel)
  | call n => exact (show PyData.strOk "call" = true by decide +kernel)
  | wrp => exact (show PyData.strOk "wrap" = true by decide +kernel)
  | own x => exact (show PyData.strOk "own" = true by decide +kernel)
  | wth n => exact (show PyData.strOk "with" = true by decide +kernel)
theorem rest_lay {own : List (Str × Bool)} {h : Hd} {n : Nat} (po : ∀ p ∈ own, wordB p.1 = true) (ok : h.ok own n = true) : PyData.canLayAll0 h.rest = true := by
  cases h with
  | deed w t =>
    have h1 := (Bool.and_eq_true_iff.mp (Bool.and_eq_true_iff.mp (Bool.and_eq_true_iff.mp ok).1).1).1
    show (PyData.strOk w && (PyData.canLayAll0 (t.map entryD) && true)) = true
    rw [(word_ok h1).1, (entries_plain t).2.1]
    rfl
  | run x =>
    have h1 := of_decide_eq_true (Bool.and_eq_true_iff.mp ok).1
    show (PyData.strOk x && true) = true
    rw [(word_ok (po _ h1)).1]
    rfl
  | own x =>
    have h1 := of_decide_eq_true (Bool.and_eq_true_iff.mp ok).1
    show (PyData.strOk x && true) = true
    rw [(word_ok (po _ h1)).1]
    rfl
  | call n =>
    show (PyData.strOk n && true) = true
    rw [(word_ok (show wordB n = true from ok)).1]
    rfl
  | wth n =>
    show (PyData.strOk n && true) = true
    rw [(word_ok (show wordB n = true from ok)).1]
    rfl
  | seq => rfl
  | alt => rfl
  | wrp => rfl
theorem lay_all : ∀ ds : List PyData, (∀ d ∈ ds, d.canLay0 = true) → PyData.canLayAll0 ds = true
  | [], _ => rfl
  | d :: r, h => by
    show (PyData.canLay0 d && PyData.canLayAll0 r) = true
    rw [h d List.mem_cons_self, lay_all r fun x hx => h x (List.mem_cons_of_mem _ hx)]
    rfl
theorem Good.lay {own : List (Str × Bool)} (po : ∀ p ∈ own, wordB p.1 = true) {t : Tm} (g : Good own t) : t.data.canLay0 = true := by
  induction g with
  | @mk h ks ok kk kids ih =>
    show (PyData.strOk h.tag && PyData.canLayAll0 (h.rest ++ datas ks)) = true
    rw [tag_ok, lay_app, rest_lay po ok, datas_map]
    rw [lay_all (ks.map Tm.data) fun d hd => by
      obtain ⟨t, ht, rfl⟩ := List.mem_map.mp hd
      exact ih t ht]
    rfl
theorem Good.shaped {own : List (Str × Bool)} (po : ∀ p ∈ own, wordB p.1 = true) {t : Tm} (g : Good own t) (hd : t.deep ≤ 60) : SeqAt.shaped t.data = true := by
  unfold SeqAt.shaped
  rw [g.lay po, decide_eq_true (by have := t.depth; omega)]
  rfl
theorem Good.kid {own : List (Str × Bool)} {t u : Tm} (g : Good own t) (h : u ∈ t.kids) : Good own u := by
  cases g with
  | mk ok kk kids => exact kids u h
/-- the parameters as data -/
def parD (p : Str × Bool) : PyData := .tuple [.str p.1, .str (kd p.2)]
def parsD (own : List (Str × Bool)) : PyData := .tuple (own.map parD)
theorem kd_inj {a b : Bool} (h : kd a = kd b) : a = b := by
  cases a <;> cases b <;> first | rfl | exact absurd h (by decide +kernel)
theorem eqv_pair (a b c d : Str) : PyData.eqv (.tuple [.str a, .str b]) (.tuple [.str c, .str d]) = (a == c && b == d) := by
  simp [PyData.eqv, PyData.eqvAll]
theorem any_par (own : List (Str × Bool)) (x : Str) (k : Bool) : ((own.map parD).any fun z => PyData.eqv z (parD (x, k))) = decide ((x, k) ∈ own) := by
  induction own with
  | nil => rfl
  | cons p r ih =>
    rw [List.map_cons, List.any_cons, ih]
    have e : PyData.eqv (parD p) (parD (x, k)) = decide (p = (x, k)) := by
      show PyData.eqv (.tuple [.str p.1, .str (kd p.2)]) (.tuple [.str x, .str (kd k)]) = _
      rw [eqv_pair]
      obtain ⟨y, j⟩ := p
      by_cases e : (y, j) = (x, k)
      · cases e
        simp
      · rw [decide_eq_false e]
        refine Bool.eq_false_iff.mpr fun z => e ?_
        obtain ⟨h1, h2⟩ := Bool.and_eq_true_iff.mp z
        rw [show y = x from beq_iff_eq.mp h1, show j = k from kd_inj (beq_iff_eq.mp h2)]
    rw [e]
    by_cases e1 : p = (x, k)
    · simp [e1]
    · have e2 : ¬ (x, k) = p := fun z => e1 z.symm
      simp [e1, e2]
theorem pars_shaped {own : List (Str × Bool)} (po : ParOk own) : SeqAt.shaped (parsD own) = true := by
  have h1 : PyData.canLayAll0 (own.map parD) = true := lay_all _ fun d hd => by
    obtain ⟨p, hp, rfl⟩ := List.mem_map.mp hd
    show (PyData.strOk p.1 && (PyData.strOk (kd p.2) && true)) = true
    rw [(word_ok (po.nms p hp)).1]
    cases p.2 <;> decide +kernel
  have h2 : ∀ l : List (Str × Bool), PyData.depthAll (l.map parD) ≤ 1 := fun l => by
    induction l with
    | nil => exact Nat.zero_le _
    | cons p r ih =>
      show max (max 0 (max 0 0) + 1) (PyData.depthAll (r.map parD)) ≤ 1
      omega
  unfold SeqAt.shaped
  rw [show PyData.canLay0 (parsD own) = true from h1, decide_eq_true (show PyData.depth (parsD own) ≤ 64 by
    show PyData.depthAll (own.map parD) + 1 ≤ 64
    have := h2 own
    omega)]
  rfl
theorem par_shaped {x : Str} (k : Bool) (h : PyData.strOk x = true) : SeqAt.shaped (parD (x, k)) = true := by
  have h1 : PyData.canLay0 (parD (x, k)) = true := by
    show (PyData.strOk x && (PyData.strOk (kd k) && true)) = true
    rw [h]
    cases k <;> decide +kernel
  unfold SeqAt.shaped
  rw [h1]
  rfl
theorem pars_noL (own : List (Str × Bool)) : noL (parsD own) = true := by
  show noLs (own.map parD) = true
  induction own with
  | nil => rfl
  | cons p r ih => exact ih
end FS
set_option Elab.async false
set_option linter.all false
set_option maxRecDepth 100000
set_option maxHeartbeats 4000000
namespace FS
open PySem PySem.Spec PyProof.Rows L2
structure Cal (P : Program) (w : World) (K : PySem.W.Frag) (mg : Str → Option Value) (base : Heap) (k : Nat) (x : Str) (ps : List Str) (sp : Sp) : Prop where
  ex : ∃ (f : Addr) (fd : FuncData), FnOk P w K mg base CX0 k f fd ps sp ∧ mg x = some (.ref f) ∧ PySem.W.keepIn K (.ref f) = true ∧ Binds K fd ps []
theorem pe_own {X : Cx} {x : Str} {k : Nat} {ps : List Str} {sp : Sp} {e : Expr} {es : List Expr} {t : TA} {p pos : Pos} (C : Cal X.prog X.w X.K X.mg X.base k x ps sp) (hr : Room k X.A) (hg : Gl X x) (ha : PA X (e :: es) t) (hdb : (x == ("__debug__" : Str)) = false := by decide)
    (he : starEach (e :: es) X.env = (false, eval e X.env) :: starEach es X.env := by rfl) (hpl : (backTo pos (starEach es X.env)).any (·.1) = false := by rfl) : PE X (.Call (.Name x p) (e :: es) [] pos) (tCall sp [] E0 t) := by
  obtain ⟨f, fd, F, m, kp, b⟩ := C.ex
  exact pe_call F hr hg m kp b .nil pass0 ha hdb he hpl
/-- a constant tuple of the module -/
def TupC (K : PySem.W.Frag) (mg : Str → Option Value) (x : Str) (ys : List Str) : Prop := ∃ a, mg x = some (.ref a) ∧ ∀ H, SqT K H a (ys.map V.str)
/-- what the module's names are -/
structure Nm (K : PySem.W.Frag) (mg : Str → Option Value) : Prop where
  b_isinstance : mg "isinstance" = none
  b_str : mg "str" = none
  b_tuple : mg "tuple" = none
  b_list : mg "list" = none
  b_bool : mg "bool" = none
  b_len : mg "len" = none
  b_all : mg "all" = none
  b_int : mg "int" = none
  b_abs : mg "abs" = none
  b_max : mg "max" = none
  b_min : mg "min" = none
  b_range : mg "range" = none
  b_zip : mg "zip" = none
  b_sorted : mg "sorted" = none
  b_set : mg "set" = none
  g_MAX_LETTERS : ∃ t, mg "MAX_LETTERS" = some (.int 8 t)
  g_MAX_MODES : ∃ t, mg "MAX_MODES" = some (.int 3 t)
  g_MAX_PARAMETERS : ∃ t, mg "MAX_PARAMETERS" = some (.int 3 t)
  g_MAX_DEPTH : ∃ t, mg "MAX_DEPTH" = some (.int 6 t)
  g_MAX_TERMS : ∃ t, mg "MAX_TERMS" = some (.int 40 t)
  g_KINDS : TupC K mg "KINDS" ["block", "wrap"]
  g_TERM_TAGS : TupC K mg "TERM_TAGS" ["do", "seq", "or", "run", "call", "wrap"]
  g_WRAP_TAGS : TupC K mg "WRAP_TAGS" ["own", "with"]
theorem Stay.refl (H : Hp) : Stay H H := fun _ _ _ h => h
/-- v is the term t -/
structure TmAt (K : PySem.W.Frag) (H : Hp) (own : List (Str × Bool)) (v : V) (t : Tm) : Prop where
  dp : Dp K H v t.data
  good : Good own t
  po : ParOk own
  low : t.deep ≤ 60
theorem TmAt.stay {K : PySem.W.Frag} {H H' : Hp} {own : List (Str × Bool)} {v : V} {t : Tm} (a : TmAt K H own v t) (e : Stay H H') : TmAt K H' own v t := ⟨Dp.stay e t.noL a.dp, a.good, a.po, a.low⟩
theorem TmAt.same {K : PySem.W.Frag} {H H' : Hp} {own : List (Str × Bool)} {v : V} {t : Tm} (a : TmAt K H own v t) (e : Same H H') : TmAt K H' own v t := a.stay (.of e)
theorem DpAll.split {K : PySem.W.Frag} {H : Hp} : ∀ {ds es : List PyData} {vs : List V}, DpAll K H vs (ds ++ es) → ∃ us ws, vs = us ++ ws ∧ DpAll K H us ds ∧ DpAll K H ws es
  | [], es, vs, r => ⟨[], vs, rfl, .nil, r⟩
  | d :: ds, es, _, .cons h r => by
    obtain ⟨us, ws, rfl, h1, h2⟩ := DpAll.split r
    exact ⟨_ :: us, ws, rfl, .cons h h1, h2⟩
theorem Dp.tup_inv {K : PySem.W.Frag} {H : Hp} {v : V} {ds : List PyData} (h : Dp K H v (.tuple ds)) : ∃ a xs, v = .ref a ∧ SqT K H a xs ∧ DpAll K H xs ds := by
  cases h with
  | tup s r => exact ⟨_, _, rfl, s, r⟩
theorem Dp.str_inv {K : PySem.W.Frag} {H : Hp} {v : V} {x : Str} (h : Dp K H v (.str x)) : v = .str x := by
  cases h
  rfl
theorem tm_open {K : PySem.W.Frag} {H : Hp} {v : V} {h : Hd} {ks : List Tm} (d : Dp K H v (Tm.mk h ks).data) : ∃ a rs kv, v = .ref a ∧ SqT K H a (V.str h.tag :: (rs ++ kv)) ∧ DpAll K H rs h.rest ∧ DpAll K H kv (datas ks) := by
  obtain ⟨a, xs, rfl, s, r⟩ := Dp.tup_inv (show Dp K H v (.tuple (.str h.tag :: (h.rest ++ datas ks))) from d)
  cases r with
  | cons h1 r =>
    cases Dp.str_inv h1
    obtain ⟨rs, kv, rfl, r1, r2⟩ := DpAll.split r
    exact ⟨a, rs, kv, rfl, s, r1, r2⟩
theorem inV_strs (x : Str) (ys : List Str) : inV (.str x) (ys.map V.str) = decide (x ∈ ys) := by
  unfold inV
  rw [List.any_map]
  induction ys with
  | nil => rfl
  | cons y r ih =>
    rw [List.any_cons, ih]
    have e : ((fun y => eqV y (V.str x)) ∘ V.str) y = decide (y = x) := by
      show eqV (V.str y) (V.str x) = _
      unfold eqV
      by_cases h : y = x <;> simp [h]
    rw [e]
    by_cases h : y = x
    · simp [h]
    · have h2 : ¬ x = y := fun z => h z.symm
      simp [h, h2]
theorem flat_strs (ys : List Str) : (ys.map V.str).all flatV = true := by
  rw [List.all_map]
  exact List.all_eq_true.mpr fun _ _ => rfl
theorem cut_from (xs : List V) (k : Nat) : cutV xs (some (k : Int)) none = xs.drop k := by
  unfold cutV
  rw [HT.sIx_nat, HT.sIx_none]
  by_cases h : k ≤ xs.length
  · rw [Nat.min_eq_left h]
    exact List.take_of_length_le (by rw [List.length_drop]; exact Nat.le_refl _)
  · have h2 : xs.length ≤ k := by omega
    rw [Nat.min_eq_right h2, List.drop_eq_nil_of_le (Nat.le_refl _), List.drop_eq_nil_of_le h2]
    simp
def Hd.leaf : Hd → Bool
  | .deed _ _ => true
  | .run _ => true
  | .own _ => true
  | _ => false
theorem Good.leaf {own : List (Str × Bool)} {h : Hd} {ks : List Tm} (g : Good own (.mk h ks)) (l : h.leaf = true) : ks = [] := by
  cases g with
  | mk ok kk kids =>
    refine List.eq_nil_of_length_eq_zero ?_
    cases h with
    | deed w t => exact of_decide_eq_true (Bool.and_eq_true_iff.mp ok).2
    | run x => exact of_decide_eq_true (Bool.and_eq_true_iff.mp ok).2
    | own x => exact of_decide_eq_true (Bool.and_eq_true_iff.mp ok).2
    | _ => cases l
/-! ### promises of the program's functions -/
def spKind (K : PySem.W.Frag) : Sp := fun vs H Q _ => ∃ (own : List (Str × Bool)) (v : V) (t : Tm), vs = [v] ∧ TmAt K H own v t ∧ ∀ H', Same H H' → Q (.str (kd t.isW)) H'
def spParts (K : PySem.W.Frag) : Sp := fun vs H Q _ => ∃ (own : List (Str × Bool)) (v : V) (t : Tm), vs = [v] ∧ Dp K H v t.data ∧ Good own t ∧ ∀ H' p kv, Same H H' → SqT K H' p kv → DpAll K H' kv (datas t.kids) → Q (.ref p) H'
def Hd.allow : Hd → Nat → List (List Bool)
  | .wrp, _ => [[true], [false]]
  | .call _, n => List.replicate n [false, true]
  | .wth _, n => List.replicate n [false, true]
  | _, n => List.replicate n [false]
def kindsD (bs : List Bool) : PyData := .tuple (bs.map fun b => .str (kd b))
def spKinds (K : PySem.W.Frag) : Sp := fun vs H Q _ => ∃ (own : List (Str × Bool)) (v : V) (t : Tm), vs = [v] ∧ Dp K H v t.data ∧ Good own t ∧ t.kids.length ≤ 100 ∧ ∀ H' p kv, Same H H' → SqT K H' p kv → DpAll K H' kv ((t.hd.allow t.kids.length).map kindsD) → Q (.ref p) H'
def spAll (K : PySem.W.Frag) (n : Nat) : Sp := fun vs H Q _ => ∃ (own : List (Str × Bool)) (v : V) (t : Tm), vs = [v] ∧ Dp K H v t.data ∧ Good own t ∧ t.deep ≤ n ∧ t.count ≤ 10000 ∧ ∀ H' p xs, Same H H' → H p = none → H' p = some (.lst xs) → DpAll K H' xs (datas t.all) → Q (.ref p) H'
def spIntIn : Sp := fun vs H Q _ => ∃ i a b : Int, vs = [.int i, .int a, .int b] ∧ Q (.bl (decide (a ≤ i) && decide (i ≤ b))) H
def tableB (t : List (Option Nat)) : Bool := decide (1 ≤ t.length ∧ t.length ≤ 3) && t.all (fun e => match e with | none => true | some n => decide (n < 3))
def spTable (K : PySem.W.Frag) : Sp := fun vs H Q _ => ∃ (v : V) (t : List (Option Nat)), vs = [v] ∧ Dp K H v (.tuple (t.map entryD)) ∧ t.length ≤ 100 ∧ ∀ H', Same H H' → Q (.bl (tableB t)) H'
def spName : Sp := fun vs H Q _ => ∃ z : Str, vs = [.str z] ∧ z.length ≤ 1000 ∧ ∀ H', Same H H' → Q (.bl (wordB z)) H'
def spForm (K : PySem.W.Frag) : Sp := fun vs H Q _ => ∃ (own : List (Str × Bool)) (v w : V) (t : Tm), vs = [v, w] ∧ TmAt K H own v t ∧ Dp K H w (parsD own) ∧ ∀ H', Same H H' → Q (.bl true) H'
def spPar (K : PySem.W.Frag) : Sp := fun vs H Q _ => ∃ (v : V) (p : Str × Bool), vs = [v] ∧ Dp K H v (parD p) ∧ wordB p.1 = true ∧ ∀ H', Same H H' → Q (.bl true) H'
def spPars (K : PySem.W.Frag) : Sp := fun vs H Q _ => ∃ (v : V) (own : List (Str × Bool)), vs = [v] ∧ Dp K H v (parsD own) ∧ ParOk own ∧ ∀ H', Same H H' → Q (.bl true) H'
def spTerm (K : PySem.W.Frag) : Sp := fun vs H Q _ => ∃ (own : List (Str × Bool)) (v w : V) (t : Tm), vs = [v, w] ∧ TmAt K H own v t ∧ Dp K H w (parsD own) ∧ t.isW = false ∧ t.count ≤ 40 ∧ t.deep ≤ 6 ∧ ∀ H', Same H H' → Q (.bl true) H'
end FS
set_option Elab.async false
set_option linter.all false
set_option maxRecDepth 100000
set_option maxHeartbeats 4000000
namespace FS
open PySem PySem.Spec PyProof.Rows L2
def Hd.is3 : Hd → Bool
  | .seq => true
  | .alt => true
  | .wrp => true
  | _ => false
def Hd.is2 : Hd → Bool
  | .call _ => true
  | .wth _ => true
  | _ => false
theorem tag3 : ∀ h : Hd, decide (h.tag ∈ [("seq" : Str), "or", "wrap"]) = h.is3
  | .deed _ _ => (show decide (("do" : Str) ∈ [("seq" : Str), "or", "wrap"]) = false by decide +kernel)
  | .seq => (show decide (("seq" : Str) ∈ [("seq" : Str), "or", "wrap"]) = true by decide +kernel)
  | .alt => (show decide (("or" : Str) ∈ [("seq" : Str), "or", "wrap"]) = true by decide +kernel)
  | .run _ => (show decide (("run" : Str) ∈ [("seq" : Str), "or", "wrap"]) = false by decide +kernel)
  | .call _ => (show decide (("call" : Str) ∈ [("seq" : Str), "or", "wrap"]) = false by decide +kernel)
  | .wrp => (show decide (("wrap" : Str) ∈ [("seq" : Str), "or", "wrap"]) = true by decide +kernel)
  | .own _ => (show decide (("own" : Str) ∈ [("seq" : Str), "or", "wrap"]) = false by decide +kernel)
  | .wth _ => (show decide (("with" : Str) ∈ [("seq" : Str), "or", "wrap"]) = false by decide +kernel)
theorem tag2 : ∀ h : Hd, decide (h.tag ∈ [("call" : Str), "with"]) = h.is2
  | .deed _ _ => (show decide (("do" : Str) ∈ [("call" : Str), "with"]) = false by decide +kernel)
  | .seq => (show decide (("seq" : Str) ∈ [("call" : Str), "with"]) = false by decide +kernel)
  | .alt => (show decide (("or" : Str) ∈ [("call" : Str), "with"]) = false by decide +kernel)
  | .run _ => (show decide (("run" : Str) ∈ [("call" : Str), "with"]) = false by decide +kernel)
  | .call _ => (show decide (("call" : Str) ∈ [("call" : Str), "with"]) = true by decide +kernel)
  | .wrp => (show decide (("wrap" : Str) ∈ [("call" : Str), "with"]) = false by decide +kernel)
  | .own _ => (show decide (("own" : Str) ∈ [("call" : Str), "with"]) = false by decide +kernel)
  | .wth _ => (show decide (("with" : Str) ∈ [("call" : Str), "with"]) = true by decide +kernel)
/-- which head a tag is of, as a number -/
def Hd.num : Hd → Nat
  | .deed _ _ => 0
  | .seq => 1
  | .alt => 2
  | .run _ => 3
  | .call _ => 4
  | .wrp => 5
  | .own _ => 6
  | .wth _ => 7
def tags : List Str := ["do", "seq", "or", "run", "call", "wrap", "own", "with"]
theorem tag_num : ∀ h : Hd, h.tag = tags.getD h.num ""
  | .deed _ _ => rfl
  | .seq => rfl
  | .alt => rfl
  | .run _ => rfl
  | .call _ => rfl
  | .wrp => rfl
  | .own _ => rfl
  | .wth _ => rfl
theorem num_lt (h : Hd) : h.num < 8 := by
  cases h <;> (show (_ : Nat) < 8) <;> first | exact (show 0 < 8 by decide) | exact (show 1 < 8 by decide) | exact (show 2 < 8 by decide) | exact (show 3 < 8 by decide) | exact (show 4 < 8 by decide) | exact (show 5 < 8 by decide) | exact (show 6 < 8 by decide) | exact (show 7 < 8 by decide)
theorem tags_inj : ∀ i, i < 8 → ∀ j, j < 8 → ((tags.getD i "" == tags.getD j "") = decide (i = j)) := by decide +kernel
/-- h.tag == a tag -/
theorem tag_eq (h : Hd) {x : Str} {j : Nat} (hx : tags.getD j "" = x := by rfl) (hj : j < 8 := by decide) : (h.tag == x) = decide (h.num = j) := by
  rw [tag_num h, ← hx]
  exact tags_inj _ (num_lt h) _ hj
theorem tag_dec (h : Hd) {x : Str} {j : Nat} (hx : tags.getD j "" = x := by rfl) (hj : j < 8 := by decide) : decide (V.str h.tag = V.str x) = decide (h.num = j) := by
  rw [← tag_eq h hx hj]
  by_cases e : h.tag = x <;> simp [e]
theorem rep_flat {α : Type} (k : Nat) (x : α) : (List.replicate k [x]).flatten = List.replicate k x := by
  induction k with
  | zero => rfl
  | succ k ih =>
    rw [List.replicate_succ, List.flatten_cons, ih]
    rfl
theorem DpAll.rep {K : PySem.W.Frag} {H : Hp} {v : V} {d : PyData} (h : Dp K H v d) : ∀ k, DpAll K H (List.replicate k v) (List.replicate k d)
  | 0 => .nil
  | k + 1 => .cons h (DpAll.rep h k)
theorem Hd.rest0 {K : PySem.W.Frag} {H : Hp} {h : Hd} {rs : List V} (r : DpAll K H rs h.rest) (e : h.is3 = true) : rs = [] := by
  cases h with
  | seq => cases r; rfl
  | alt => cases r; rfl
  | wrp => cases r; rfl
  | _ => cases e
theorem Hd.rest1 {K : PySem.W.Frag} {H : Hp} {h : Hd} {rs : List V} (r : DpAll K H rs h.rest) (e : h.is2 = true) : ∃ x, rs = [.str x] := by
  cases h with
  | call n => cases r with | cons h1 r => cases r; cases Dp.str_inv h1; exact ⟨_, rfl⟩
  | wth n => cases r with | cons h1 r => cases r; cases Dp.str_inv h1; exact ⟨_, rfl⟩
  | _ => cases e
theorem Good.kids0 {own : List (Str × Bool)} {h : Hd} {ks : List Tm} (g : Good own (.mk h ks)) (e3 : h.is3 ≠ true) (e2 : h.is2 ≠ true) : ks = [] := by
  cases h with
  | deed w t => exact g.leaf rfl
  | run x => exact g.leaf rfl
  | own x => exact g.leaf rfl
  | seq => exact absurd rfl e3
  | alt => exact absurd rfl e3
  | wrp => exact absurd rfl e3
  | call n => exact absurd rfl e2
  | wth n => exact absurd rfl e2
theorem at0 {x : V} {l : List V} : atI (x :: l) 0 = some x := atI_nat (j := 0) rfl
theorem at1 {x y : V} {l : List V} : atI (x :: y :: l) 1 = some y := atI_nat (j := 1) rfl
theorem at2 {x y z : V} {l : List V} : atI (x :: y :: z :: l) 2 = some z := atI_nat (j := 2) rfl
/-- part[k:] -/
theorem cut_tup {K : PySem.W.Frag} {H : Hp} {a : Addr} {xs : List V} {k : Nat} {Q : V → Hp → Prop} (sq : SqT K H a xs) (hk : 0 < k) (hne : xs ≠ []) (q : ∀ H' p, Same H H' → SqT K H' p (xs.drop k) → Q (.ref p) H') :
    rSlA K (.ref a) (some (k : Int)) none H Q := by
  have h0 : HT.sIx xs.length 0 (some (k : Int)) ≠ 0 := by
    rw [HT.sIx_nat]
    have : 0 < xs.length := List.length_pos_iff.mpr hne
    omega
  refine ⟨a, xs, rfl, sq, fun z => absurd z.1 h0, fun _ p np => q _ p (same_upd np) (.inl (.inl ?_))⟩
  rw [upd_same, cut_from]
end FS
set_option Elab.async false
set_option linter.all false
set_option maxRecDepth 100000
set_option maxHeartbeats 4000000
namespace FS
open PySem PySem.Spec PyProof.Rows L2
theorem getE {α : Type} {l : Array α} {i : Nat} {c : α} (h : l[i]? = some c) : l.toList[i]? = some c := by
  rw [Array.getElem?_toList]
  exact h
theorem take_one {α β : Type} {l : List α} {i : Nat} {c : α} (f : α → β) (h : l[i]? = some c) : ((l.take (i + 1)).map f) = (l.take i).map f ++ [f c] := by
  rw [List.take_add_one, h, List.map_append]
  rfl
theorem all_map (l : List Nat) : (l.map sgn).all id = l.all sgn := by
  rw [List.all_map]
  rfl
theorem small1000 {n : Nat} (h : n < 1000) : n < sizeLine := Nat.lt_trans h (by decide)
theorem small16 {n : Nat} (h : n < 16000) : n < sizeLine := Nat.lt_trans h (by decide)
theorem u65 {k : Nat} {A : Around} (r : L2.Room k A) : A.units + 65 < cLine := by
  have := r.un
  omega
theorem Stay.set {H : Hp} {p : Addr} {xs ys : List V} (e : H p = some (.lst xs)) : Stay H (upd H p (.lst ys)) := fun b o n h => by
  rw [upd_ne (fun z => n xs (by
    subst z
    rw [h] at e
    exact Option.some.inj e))]
  exact h
/-- what is new may change -/
theorem Same.set {H H1 : Hp} {p : Addr} {o : HO} (s : Same H H1) (n : H p = none) : Same H (upd H1 p o) := fun b x e => by
  rw [upd_ne (ne_of_none e n)]
  exact s b x e
theorem ix_tupK {X : Cx} {K : PySem.W.Frag} (h : X.K = K) : IxR X (rIxT K) := by
  subst h
  exact ix_tup
theorem addS_new {xs : List Str} {z : Str} (h : z ∉ xs) : addS xs z = xs ++ [z] := if_neg h
theorem take_new {α : Type} {l : List α} {i : Nat} {x : α} (f : α → Str) (nd : (l.map f).Nodup) (h : l[i]? = some x) : f x ∉ (l.take i).map f := fun m => by
  have h2 : (l.map f)[i]? = some (f x) := by rw [List.getElem?_map, h]; rfl
  have e : l.map f = (l.take i).map f ++ (f x :: (l.drop (i + 1)).map f) := by
    have h3 : l = l.take i ++ (x :: l.drop (i + 1)) := by
      have lt := (List.getElem?_eq_some_iff.mp h).1
      have e4 := (List.getElem?_eq_some_iff.mp h).2
      rw [← e4, List.getElem_cons_drop, List.take_append_drop]
    conv => lhs; rw [h3]
    rw [List.map_append, List.map_cons]
  rw [e] at nd
  exact (List.nodup_append.mp nd).2.2 _ m _ List.mem_cons_self rfl
/-- the set of texts, turn by turn -/
theorem set_list {w : World} {K : PySem.W.Frag} {a : Addr} {xs : List V} {g : TG} {tt : TT} {te : TE} {vs : List Nat} {σ : L2.St} {H1 : Hp} {D : Addr} {Qd : Hp → Prop} (Pv : Nat → Hp → Prop) (h0 : Pv 0 (upd H1 D (SO w D []))) (hl : ∀ i H, i ≤ xs.length → Pv i H → SqL K H a xs)
    (hs : ∀ i x H, xs[i]? = some x → Pv i H → g x (wipe σ vs) H fun σ2 H2 => wipe σ2 vs = wipe σ vs ∧ tt σ2 H2 fun b H3 =>
      if b = true then te σ2 H3 fun y H4 => ∃ (z : Str) (zs : List Str), y = .str z ∧ H4 D = some (SO w D zs) ∧ zs.length + 1 < scanBound ∧ Pv (i + 1) (upd H4 D (SO w D (addS zs z))) else Pv (i + 1) H3) (hd : ∀ H, Pv xs.length H → Qd H) :
    ∃ W : Nat → Nat → Hp → Prop, (∃ m, W 0 m (upd H1 D (SO w D []))) ∧ ∀ i m H, W i m H →
      ((Itl K a).stop i H ∧ Qd H) ∨ ((Itl K a).go i H ∧ ∃ Nx : Hp → Prop, (∀ H', Nx H' → ∃ m', m' < m ∧ W (i + 1) m' H') ∧ ∀ x H', (Itl K a).yld i H x H' → g x (wipe σ vs) H' fun σ2 H2 => wipe σ2 vs = wipe σ vs ∧ tt σ2 H2 fun b H3 =>
        if b = true then te σ2 H3 fun y H4 => ∃ (z : Str) (zs : List Str), y = .str z ∧ H4 D = some (SO w D zs) ∧ zs.length + 1 < scanBound ∧ Nx (upd H4 D (SO w D (addS zs z))) else Nx H3) := by
  refine ⟨fun i m H => m = xs.length - i ∧ i ≤ xs.length ∧ Pv i H, ⟨xs.length, by simp, Nat.zero_le _, h0⟩, ?_⟩
  rintro i m H ⟨rfl, hi, p⟩
  have q := hl i H hi p
  by_cases hlt : i < xs.length
  · refine .inr ⟨⟨xs, xs[i], q, by simp [hlt]⟩, Pv (i + 1), fun H' p' => ⟨xs.length - (i + 1), by omega, rfl, hlt, p'⟩, fun x H' y => ?_⟩
    obtain ⟨e, y⟩ := y
    subst e
    exact hs i x _ (y xs q) p
  · have e : i = xs.length := by omega
    subst e
    exact .inl ⟨⟨xs, q, Nat.le_refl _⟩, hd H p⟩
theorem set_tup {w : World} {K : PySem.W.Frag} {a : Addr} {xs : List V} {g : TG} {tt : TT} {te : TE} {vs : List Nat} {σ : L2.St} {H1 : Hp} {D : Addr} {Qd : Hp → Prop} (Pv : Nat → Hp → Prop) (h0 : Pv 0 (upd H1 D (SO w D []))) (hl : ∀ i H, i ≤ xs.length → Pv i H → SqT K H a xs)
    (hs : ∀ i x H, xs[i]? = some x → Pv i H → g x (wipe σ vs) H fun σ2 H2 => wipe σ2 vs = wipe σ vs ∧ tt σ2 H2 fun b H3 =>
      if b = true then te σ2 H3 fun y H4 => ∃ (z : Str) (zs : List Str), y = .str z ∧ H4 D = some (SO w D zs) ∧ zs.length + 1 < scanBound ∧ Pv (i + 1) (upd H4 D (SO w D (addS zs z))) else Pv (i + 1) H3) (hd : ∀ H, Pv xs.length H → Qd H) :
    ∃ W : Nat → Nat → Hp → Prop, (∃ m, W 0 m (upd H1 D (SO w D []))) ∧ ∀ i m H, W i m H →
      ((Itt K a).stop i H ∧ Qd H) ∨ ((Itt K a).go i H ∧ ∃ Nx : Hp → Prop, (∀ H', Nx H' → ∃ m', m' < m ∧ W (i + 1) m' H') ∧ ∀ x H', (Itt K a).yld i H x H' → g x (wipe σ vs) H' fun σ2 H2 => wipe σ2 vs = wipe σ vs ∧ tt σ2 H2 fun b H3 =>
        if b = true then te σ2 H3 fun y H4 => ∃ (z : Str) (zs : List Str), y = .str z ∧ H4 D = some (SO w D zs) ∧ zs.length + 1 < scanBound ∧ Nx (upd H4 D (SO w D (addS zs z))) else Nx H3) := by
  refine ⟨fun i m H => m = xs.length - i ∧ i ≤ xs.length ∧ Pv i H, ⟨xs.length, by simp, Nat.zero_le _, h0⟩, ?_⟩
  rintro i m H ⟨rfl, hi, p⟩
  have q := hl i H hi p
  by_cases hlt : i < xs.length
  · refine .inr ⟨⟨xs, xs[i], q, by simp [hlt]⟩, Pv (i + 1), fun H' p' => ⟨xs.length - (i + 1), by omega, rfl, hlt, p'⟩, fun x H' y => ?_⟩
    obtain ⟨e, y⟩ := y
    subst e
    exact hs i x _ (y xs q) p
  · have e : i = xs.length := by omega
    subst e
    exact .inl ⟨⟨xs, q, Nat.le_refl _⟩, hd H p⟩
end FS
set_option Elab.async false
set_option linter.all false
set_option maxRecDepth 100000
set_option maxHeartbeats 4000000
namespace FS
open PySem PySem.Spec PyProof.Rows L2
theorem alls_app (a b : List Tm) : alls (a ++ b) = alls a ++ alls b := by
  induction a with
  | nil => rfl
  | cons t r ih =>
    show t.all ++ alls (r ++ b) = (t.all ++ alls r) ++ alls b
    rw [ih, List.append_assoc]
theorem alls_one (t : Tm) : alls [t] = t.all := by
  show t.all ++ [] = _
  rw [List.append_nil]
theorem take_more {α : Type} {l : List α} {i : Nat} {x : α} (h : l[i]? = some x) : l.take (i + 1) = l.take i ++ [x] := by
  rw [List.take_add_one, h]
  rfl
theorem counts_take (ks : List Tm) (i : Nat) : counts (ks.take i) ≤ counts ks := by
  have h := counts_app (ks.take i) (ks.drop i)
  rw [List.take_append_drop] at h
  omega
theorem DpAll.kid {K : PySem.W.Frag} {H : Hp} {kv : List V} {ks : List Tm} (r : DpAll K H kv (datas ks)) {i : Nat} {x : V} (h : kv[i]? = some x) : ∃ u, ks[i]? = some u ∧ Dp K H x u.data := by
  obtain ⟨d, hd, dx⟩ := DpAll.get r h
  rw [datas_map, List.getElem?_map] at hd
  obtain ⟨u, hu, rfl⟩ := Option.map_eq_some_iff.mp hd
  exact ⟨u, hu, dx⟩
structure Tr where
  t : Tm
  k : List Bool
  d : Nat
def Tr.data (r : Tr) : PyData := .tuple [r.t.data, kindsD r.k, .int (r.d : Int)]
theorem kinds_noL (k : List Bool) : noL (kindsD k) = true := by
  show noLs (k.map _) = true
  induction k with
  | nil => rfl
  | cons b r ih => exact ih
theorem trs_noL : ∀ rs : List Tr, noLs (rs.map Tr.data) = true
  | [] => rfl
  | r :: s => by
    show ((noL r.t.data && (noL (kindsD r.k) && true)) && noLs (s.map Tr.data)) = true
    rw [Tm.noL, kinds_noL, trs_noL s]
    rfl
structure TrOk (own : List (Str × Bool)) (r : Tr) : Prop where
  good : Good own r.t
  kind : r.t.isW ∈ r.k
  deep : r.d + r.t.deep ≤ 7
theorem kinds_open {K : PySem.W.Frag} {H : Hp} {v : V} {k : List Bool} (h : Dp K H v (kindsD k)) : ∃ a, v = .ref a ∧ SqT K H a ((k.map kd).map V.str) := by
  obtain ⟨a, xs, rfl, sq, r⟩ := Dp.tup_inv h
  refine ⟨a, rfl, ?_⟩
  have e : ∀ (k : List Bool) (xs : List V), DpAll K H xs (k.map fun b => .str (kd b)) → xs = (k.map kd).map V.str := fun k => by
    induction k with
    | nil =>
      intro xs r
      cases r
      rfl
    | cons b l ih =>
      intro xs r
      cases r with
      | cons h1 r =>
        cases Dp.str_inv h1
        rw [ih _ r]
        rfl
  rw [← e k xs r]
  exact sq
theorem allow_len (h : Hd) (n : Nat) (w2 : h = .wrp → n = 2) : (h.allow n).length = n := by
  cases h <;> first | (exact (List.length_replicate)) | (rw [w2 rfl]; rfl)
theorem kid_allow {own : List (Str × Bool)} {h : Hd} {ks : List Tm} (g : Good own (.mk h ks)) {i : Nat} {u : Tm} {al : List Bool} (hu : ks[i]? = some u) (ha : (h.allow ks.length)[i]? = some al) : u.isW ∈ al := by
  cases g with
  | mk ok kk kids =>
    have m := List.mem_of_getElem? hu
    have two : ∀ b : Bool, b ∈ [false, true] := by decide
    have blk : ks.all (fun t => !t.isW) = true → al = [false] → u.isW ∈ al := fun h1 h2 => by
      subst h2
      have := List.all_eq_true.mp h1 u m
      cases e : u.isW with
      | false => exact List.mem_cons_self
      | true => rw [e] at this; cases this
    have rep : ∀ x : List Bool, (List.replicate ks.length x)[i]? = some al → al = x := fun x h => List.eq_of_mem_replicate (List.mem_of_getElem? h)
    have am : ∀ l : List Tm, (l.map Tm.isW).all (! ·) = true → l.all (fun t => !t.isW) = true := fun l h => by
      rw [List.all_map] at h
      exact h
    cases h with
    | deed w t => exact blk (am _ kk) (rep _ ha)
    | seq => exact blk (am _ kk) (rep _ ha)
    | alt => exact blk (am _ kk) (rep _ ha)
    | run x => exact blk (am _ kk) (rep _ ha)
    | call n => rw [rep _ ha]; exact two _
    | wrp =>
      have e : ks.map Tm.isW = [true, false] := of_decide_eq_true kk
      have h2 : (ks.map Tm.isW)[i]? = some u.isW := by rw [List.getElem?_map, hu]; rfl
      rw [e] at h2
      have h3 : ([[true], [false]] : List (List Bool))[i]? = some al := ha
      match i, h2, h3 with
      | 0, h2, h3 => rw [← Option.some.inj h3, ← Option.some.inj h2]; exact List.mem_cons_self
      | 1, h2, h3 => rw [← Option.some.inj h3, ← Option.some.inj h2]; exact List.mem_cons_self
      | n + 2, h2, _ => simp at h2
    | own x => exact blk (am _ kk) (rep _ ha)
    | wth n => rw [rep _ ha]; exact two _
theorem Good.wrp2 {own : List (Str × Bool)} {ks : List Tm} (g : Good own (.mk .wrp ks)) : ks.length = 2 := by
  cases g with
  | mk ok kk kids => exact of_decide_eq_true ok
theorem count_pos (t : Tm) : 0 < t.count := by
  rw [count_eq]
  omega
theorem len_counts (l : List Tm) : l.length ≤ counts l := by
  induction l with
  | nil => exact Nat.le_refl _
  | cons u l ih =>
    rw [counts_cons]
    have := count_pos u
    simp only [List.length_cons]
    omega
theorem trs_counts (l : List Tr) : l.length ≤ counts (l.map Tr.t) := by
  have h := len_counts (l.map Tr.t)
  rw [List.length_map] at h
  exact h
end FS
set_option Elab.async false
set_option linter.all false
set_option maxRecDepth 100000
set_option maxHeartbeats 4000000
/-! own classes: ==, !=, len, str by their own defs -/
namespace FS
open PySem PySem.Spec PyProof.Rows L2
section
variable {X : Cx} {pins : List (Addr × Obj)} {σ : L2.St} {H : Hp} {s : Shared} {n : Nat} {A : Around} {CX : CXT} {C f : Addr} {fd : FuncData} {ps : List Str} {sp : Sp} {E : XK}
theorem looks_ty {x : V} {u t : Value} (I : Inv X pins σ H s) (rx : RelV x u) (ty : TyX X.K H x t) : PySem.W.Looks (model X.prog X.w) s.heap (typeOf u) t := by
  obtain ⟨P, k, p, _⟩ := kit_of I rx ty
  exact k.ty _ _ I.kIn p
theorem run_at {vs : List V} {us : List Value} {Q : VK} (sb : Sub X n A) (I : Inv X pins σ H s) (F : FnOk X.prog X.w X.K X.mg X.base CX n f fd ps sp) (hb : Binds X.K fd ps []) (hx : Passes CX X E) (r : Vals vs us) (h : sp vs H Q E) :
    wpAny (model X.prog X.w) A (call (.ref f) us) (fun u s' => ∃ v H', Inv X pins σ H' s' ∧ RelV v u ∧ Q v H') X.xe s := by
  have e0 : Env0 X.prog X.w X.K X.mg X.base A X.stack s H := by
    have e := I.env0
    exact ⟨by rw [sb.fr]; exact e.frames, e.mod, e.bs, e.bsz, e.funs, e.frf, e.hok, e.bare⟩
  have hl := F.len _ _ _ _ h
  refine wpAny_call (codeAny_mono (F.run A X.stack s H ⟨us, []⟩ us vs Q E sb.room e0 (by
    have := hb s us I.kIn (by rw [List.append_nil, ← r.length]; exact hl)
    simpa using this) r h) fun r s' hq => ?_)
  cases r with
  | error e => exact hx pins σ H s e s' I hq
  | ok fl =>
    cases fl with
    | ret w =>
      obtain ⟨z, H', I', rz, q⟩ := I.after hq
      exact ⟨z, H', I', rz, q⟩
    | next => exact False.elim hq
    | brk => exact False.elim hq
    | cont => exact False.elim hq
end
end FS
set_option Elab.async false
set_option linter.all false
set_option maxRecDepth 100000
set_option maxHeartbeats 4000000
namespace FS
open PySem PySem.Spec PyProof.Rows L2
/-! ### tuples stand -/
def isT : HO → Bool
  | .tup _ => true
  | .frz _ (.tup _) => true
  | _ => false
def TK (H H' : Hp) : Prop := ∀ b o, isT o = true → H b = some o → H' b = some o
theorem TK.refl (H : Hp) : TK H H := fun _ _ _ h => h
theorem TK.trans {H H1 H2 : Hp} (a : TK H H1) (b : TK H1 H2) : TK H H2 := fun c o n h => b c o n (a c o n h)
theorem TK.of {H H' : Hp} (e : Same H H') : TK H H' := fun b o _ h => e b o h
theorem TK.stay {H H' : Hp} (e : Stay H H') : TK H H' := fun b o n h => e b o (fun xs z => by
  subst z
  cases n) h
theorem TK.set {H : Hp} {p : Addr} {o o' : HO} (e : H p = some o) (n : isT o = false) : TK H (upd H p o') := fun b u t h => by
  rw [upd_ne (fun z => by
    subst z
    rw [e] at h
    cases Option.some.inj h
    rw [n] at t
    cases t)]
  exact h
theorem TK.sqT {K : PySem.W.Frag} {H H' : Hp} {a : Addr} {xs : List V} (e : TK H H') (h : SqT K H a xs) : SqT K H' a xs := by
  rcases h with (h | ⟨o, h⟩) | h
  · exact .inl (.inl (e _ _ rfl h))
  · exact .inl (.inr ⟨o, e _ _ rfl h⟩)
  · exact .inr h
mutual
theorem Dp.tk {K : PySem.W.Frag} {H H' : Hp} (e : TK H H') : ∀ {v : V} {d : PyData}, noL d = true → Dp K H v d → Dp K H' v d
  | _, _, _, .non => .non
  | _, _, _, .bl b => .bl b
  | _, _, _, .int i => .int i
  | _, _, _, .str x => .str x
  | _, _, n, .lst _ _ => by cases n
  | _, _, n, .tup h r => .tup (e.sqT h) (DpAll.tk e n r)
theorem DpAll.tk {K : PySem.W.Frag} {H H' : Hp} (e : TK H H') : ∀ {vs : List V} {ds : List PyData}, noLs ds = true → DpAll K H vs ds → DpAll K H' vs ds
  | _, _, _, .nil => .nil
  | _, _, n, .cons h r => by
    have n2 := Bool.and_eq_true_iff.mp (show (noL _ && noLs _) = true from n)
    exact .cons (Dp.tk e n2.1 h) (DpAll.tk e n2.2 r)
end
/-- all but p is as it was -/
def Kp (p : Addr) (H H' : Hp) : Prop := ∀ b o, b ≠ p → H b = some o → H' b = some o
theorem Kp.refl (p : Addr) (H : Hp) : Kp p H H := fun _ _ _ h => h
theorem Kp.trans {p : Addr} {H H1 H2 : Hp} (a : Kp p H H1) (b : Kp p H1 H2) : Kp p H H2 := fun c o n h => b c o n (a c o n h)
theorem Kp.of {p : Addr} {H H' : Hp} (e : Same H H') : Kp p H H' := fun b o _ h => e b o h
theorem Kp.set {p : Addr} {H : Hp} {o : HO} : Kp p H (upd H p o) := fun b o n h => by
  rw [upd_ne n]
  exact h
theorem Kp.tk {p : Addr} {H H' : Hp} {o : HO} (k : Kp p H H') (e : H p = some o) (n : isT o = false) : TK H H' := fun b u t h => k b u (fun z => by
  subst z
  rw [e] at h
  cases Option.some.inj h
  rw [n] at t
  cases t) h
/-! ### texts in order -/
theorem rising_le : ∀ (l : List Str) (p : Str), risingS p l = true → ((p :: l).map fun z => z.cps.toList).Pairwise (· ≤ ·)
  | [], p, _ => List.Pairwise.cons (fun _ h => nomatch h) .nil
  | x :: r, p, h => by
    obtain ⟨h1, h2⟩ := Bool.and_eq_true_iff.mp (show (!ltCps x.cps.toList p.cps.toList && risingS x r) = true from h)
    have ih := rising_le r x h2
    have e : p.cps.toList ≤ x.cps.toList := by
      rw [ltCps_eq] at h1
      exact List.not_lt.mp (by simpa using h1)
    refine List.Pairwise.cons (fun z hz => ?_) ih
    rcases List.mem_cons.mp hz with rfl | hz
    · exact e
    · exact List.le_trans e (List.rel_of_pairwise_cons ih hz)
theorem sorted_le {l : List Str} (h : sortedS l = true) : (l.map fun z => z.cps.toList).Pairwise (· ≤ ·) := by
  cases l with
  | nil => exact .nil
  | cons x r => exact rising_le r x h
theorem cps_inj {x y : Str} (h : x.cps.toList = y.cps.toList) : x = y := by
  cases x with
  | mk a => cases y with
    | mk b =>
      cases Array.toList_inj.mp h
      rfl
theorem sorted_same {l m : List Str} (h1 : sortedS l = true) (h2 : sortedS m = true) (p : l.Perm m) : l = m := by
  have e : (l.map fun z => z.cps.toList) = m.map fun z => z.cps.toList := List.Perm.eq_of_pairwise (fun a b _ _ x y => List.le_antisymm x y) (sorted_le h1) (sorted_le h2) (p.map _)
  have inj : ∀ (l m : List Str), (l.map fun z => z.cps.toList) = (m.map fun z => z.cps.toList) → l = m := fun l => by
    induction l with
    | nil =>
      intro m h
      cases m with
      | nil => rfl
      | cons _ _ => cases h
    | cons x r ih =>
      intro m h
      cases m with
      | nil => cases h
      | cons y s =>
        obtain ⟨h1, h2⟩ := List.cons.inj (show x.cps.toList :: r.map _ = y.cps.toList :: s.map _ from h)
        rw [cps_inj h1, ih s h2]
  exact inj l m e
/-- each text once, in the order in which they come -/
def uniq (l : List Str) : List Str := l.foldl addS []
theorem uniq_more (l : List Str) (x : Str) : uniq (l ++ [x]) = addS (uniq l) x := by
  unfold uniq
  rw [List.foldl_append]
  rfl
theorem addS_nodup {l : List Str} {x : Str} (h : l.Nodup) : (addS l x).Nodup := by
  unfold addS
  by_cases e : x ∈ l
  · rw [if_pos e]
    exact h
  · rw [if_neg e]
    refine List.nodup_append.mpr ⟨h, List.nodup_cons.mpr ⟨(fun h => nomatch h), .nil⟩, fun a ha b hb z => e ?_⟩
    rw [← List.mem_singleton.mp hb, ← z]
    exact ha
theorem addS_mem {l : List Str} {x z : Str} : z ∈ addS l x ↔ z ∈ l ∨ z = x := by
  unfold addS
  by_cases e : x ∈ l
  · rw [if_pos e]
    exact ⟨.inl, fun h => h.elim id fun h => h ▸ e⟩
  · rw [if_neg e, List.mem_append, List.mem_singleton]
theorem uniq_nodup (l : List Str) : (uniq l).Nodup := by
  have h : ∀ (l acc : List Str), acc.Nodup → (l.foldl addS acc).Nodup := fun l => by
    induction l with
    | nil => exact fun acc h => h
    | cons x r ih => exact fun acc h => ih _ (addS_nodup h)
  exact h l [] .nil
theorem uniq_mem {l : List Str} {z : Str} : z ∈ uniq l ↔ z ∈ l := by
  have h : ∀ (l acc : List Str), z ∈ l.foldl addS acc ↔ z ∈ acc ∨ z ∈ l := fun l => by
    induction l with
    | nil => intro acc; simp
    | cons x r ih =>
      intro acc
      rw [List.foldl_cons, ih, addS_mem, List.mem_cons]
      constructor
      · rintro ((h | h) | h)
        · exact .inl h
        · exact .inr (.inl h)
        · exact .inr (.inr h)
      · rintro (h | h | h)
        · exact .inl (.inl h)
        · exact .inl (.inr h)
        · exact .inr h
  rw [show uniq l = l.foldl addS [] from rfl, h]
  simp
theorem uniq_len (l : List Str) : (uniq l).length ≤ l.length := by
  have h : ∀ (l acc : List Str), (l.foldl addS acc).length ≤ acc.length + l.length := fun l => by
    induction l with
    | nil => exact fun acc => Nat.le_refl _
    | cons x r ih =>
      intro acc
      have h1 := ih (addS acc x)
      have h2 : (addS acc x).length ≤ acc.length + 1 := by
        unfold addS
        split
        · omega
        · rw [List.length_append]
          exact Nat.le_refl _
      rw [List.foldl_cons, List.length_cons]
      omega
  have := h l []
  simp only [List.length_nil, Nat.zero_add] at this
  exact this
/-- the texts of l, ascending: what sorted of the set of them is -/
def Ranks (l ys : List Str) : Prop := ys.Perm (uniq l) ∧ sortedS ys = true
theorem Ranks.same {l m ys zs : List Str} (a : Ranks l ys) (b : Ranks m zs) (h : ∀ z, z ∈ l ↔ z ∈ m) : ys = zs := by
  refine sorted_same a.2 b.2 (a.1.trans (List.Perm.trans ?_ b.1.symm))
  exact (List.perm_ext_iff_of_nodup (uniq_nodup l) (uniq_nodup m)).mpr fun z => by rw [uniq_mem, uniq_mem, h]
/-! ### what a procedure tells -/
def wordOf (u : Tm) : Option Str := match u.hd with
  | .deed w _ => some w
  | _ => none
def useOf (u : Tm) : Option Str := match u.hd with
  | .call n => some n
  | .wth n => some n
  | _ => none
def strsD (ys : List Str) : PyData := .tuple (ys.map PyData.str)
def kindD (own : List (Str × Bool)) : PyData := .tuple (own.map fun p => .str (kd p.2))
theorem strs_noL (ys : List Str) : noL (strsD ys) = true := by
  show noLs (ys.map PyData.str) = true
  induction ys with
  | nil => rfl
  | cons x r ih => exact ih
theorem kindD_noL (own : List (Str × Bool)) : noL (kindD own) = true := by
  show noLs (own.map _) = true
  induction own with
  | nil => rfl
  | cons x r ih => exact ih
theorem op_inK {X : Cx} {K : PySem.W.Frag} (h : X.K = K) : OpR X (compareOp .In) (rIn K false) := by
  subst h
  exact op_in_seq
theorem dp_strs {K : PySem.W.Frag} {H : Hp} : ∀ ys : List Str, DpAll K H (ys.map V.str) (ys.map PyData.str)
  | [] => .nil
  | x :: r => .cons (.str _) (dp_strs r)
def prF (nm : Str) (pv bv : V) (pa ka wa ua : Addr) : List (Str × V) := [("_named", .str nm), ("_parameters", pv), ("_body", bv), ("_parts", .ref pa), ("_kinds", .ref ka), ("_words", .ref wa), ("_uses", .ref ua)]
/-- the class's facts -/
structure PrC (K : PySem.W.Frag) (mg : Str → Option Value) (C : Addr) : Prop where
  cl : Cls K C
  gC : mg "Procedure" = some (.ref C)
  a1 : NoAttr K C "_named"
  a2 : NoAttr K C "_parameters"
  a3 : NoAttr K C "_body"
  a4 : NoAttr K C "_parts"
  a5 : NoAttr K C "_kinds"
  a6 : NoAttr K C "_words"
  a7 : NoAttr K C "_uses"
  ha : PySem.W.findIn K (.ref C) "__class__" = some (some (.builtin "object.__class__"))
  hn : PySem.W.specialIn K (.builtin "object.__class__") "__get__" = some (some (.builtin "getset_descriptor.__get__"))
  htk : PySem.W.takesIn K (.builtin "object.__class__") = some true
  hm : PySem.W.mroIn K C (.type "object") = some true
  self : PySem.W.kitOne K (.ref C) (.ref C) = some true
/-- the procedure at a -/
structure PAt (K : PySem.W.Frag) (C : Addr) (H : Hp) (a : Addr) (nm : Str) (own : List (Str × Bool)) (t : Tm) : Prop where
  ex : ∃ (dx : Addr) (pv bv : V) (pa ka wa ua : Addr) (xs : List V) (ws us : List Str), H a = some (.ins C dx (prF nm pv bv pa ka wa ua)) ∧ Dp K H pv (parsD own) ∧ Dp K H bv t.data ∧ H pa = some (.lst xs) ∧ DpAll K H xs (datas t.all) ∧
    Dp K H (.ref ka) (kindD own) ∧ Dp K H (.ref wa) (strsD ws) ∧ Dp K H (.ref ua) (strsD us) ∧ Ranks (t.all.filterMap wordOf) ws ∧ Ranks (t.all.filterMap useOf) us
  wd : wordB nm = true
  po : ParOk own
  good : Good own t
  nw : t.isW = false
  few : t.count ≤ 40
  low : t.deep ≤ 6
theorem PAt.same {K : PySem.W.Frag} {C : Addr} {H H' : Hp} {a : Addr} {nm : Str} {own : List (Str × Bool)} {t : Tm} (p : PAt K C H a nm own t) (s : Same H H') : PAt K C H' a nm own t := by
  obtain ⟨⟨dx, pv, bv, pa, ka, wa, ua, xs, ws, us, h1, h2, h3, h4, h5, h6, h7, h8, h9, h10⟩, b, c, d, e, f, g⟩ := p
  have k := TK.of s
  exact ⟨⟨dx, pv, bv, pa, ka, wa, ua, xs, ws, us, s _ _ h1, Dp.tk k (pars_noL own) h2, Dp.tk k t.noL h3, s _ _ h4, DpAll.tk k (noL_datas _) h5, Dp.tk k (kindD_noL _) h6, Dp.tk k (strs_noL _) h7, Dp.tk k (strs_noL _) h8, h9, h10⟩, b, c, d, e, f, g⟩
/-- the procedure at a, whose list of parts is not at D -/
structure PAtD (K : PySem.W.Frag) (C : Addr) (H : Hp) (D a : Addr) (nm : Str) (own : List (Str × Bool)) (t : Tm) : Prop where
  ex : ∃ (dx : Addr) (pv bv : V) (pa ka wa ua : Addr) (xs : List V) (ws us : List Str), H a = some (.ins C dx (prF nm pv bv pa ka wa ua)) ∧ Dp K H pv (parsD own) ∧ Dp K H bv t.data ∧ H pa = some (.lst xs) ∧ DpAll K H xs (datas t.all) ∧
    Dp K H (.ref ka) (kindD own) ∧ Dp K H (.ref wa) (strsD ws) ∧ Dp K H (.ref ua) (strsD us) ∧ Ranks (t.all.filterMap wordOf) ws ∧ Ranks (t.all.filterMap useOf) us ∧ pa ≠ D
  na : a ≠ D
  wd : wordB nm = true
  po : ParOk own
  good : Good own t
  nw : t.isW = false
  few : t.count ≤ 40
  low : t.deep ≤ 6
theorem PAtD.pat {K : PySem.W.Frag} {C : Addr} {H : Hp} {D a : Addr} {nm : Str} {own : List (Str × Bool)} {t : Tm} (p : PAtD K C H D a nm own t) : PAt K C H a nm own t := by
  obtain ⟨⟨dx, pv, bv, pa, ka, wa, ua, xs, ws, us, h1, h2, h3, h4, h5, h6, h7, h8, h9, h10, -⟩, -, b, c, d, e, f, g⟩ := p
  exact ⟨⟨dx, pv, bv, pa, ka, wa, ua, xs, ws, us, h1, h2, h3, h4, h5, h6, h7, h8, h9, h10⟩, b, c, d, e, f, g⟩
theorem PAtD.kp {K : PySem.W.Frag} {C : Addr} {H H' : Hp} {D a : Addr} {nm : Str} {own : List (Str × Bool)} {t : Tm} (p : PAtD K C H D a nm own t) (k0 : Kp D H H') (k : TK H H') : PAtD K C H' D a nm own t := by
  obtain ⟨⟨dx, pv, bv, pa, ka, wa, ua, xs, ws, us, h1, h2, h3, h4, h5, h6, h7, h8, h9, h10, hn⟩, na, b, c, d, e, f, g⟩ := p
  exact ⟨⟨dx, pv, bv, pa, ka, wa, ua, xs, ws, us, k0 _ _ na h1, Dp.tk k (pars_noL own) h2, Dp.tk k t.noL h3, k0 _ _ hn h4, DpAll.tk k (noL_datas _) h5, Dp.tk k (kindD_noL _) h6, Dp.tk k (strs_noL _) h7, Dp.tk k (strs_noL _) h8, h9, h10, hn⟩, na, b, c, d, e, f, g⟩
def spInit (K : PySem.W.Frag) (C : Addr) : Sp := fun vs H Q _ => ∃ (p dx : Addr) (nm : Str) (pv bv : V) (own : List (Str × Bool)) (t : Tm), vs = [.ref p, .str nm, pv, bv] ∧ H p = some (.ins C dx []) ∧ wordB nm = true ∧ Dp K H pv (parsD own) ∧ Dp K H bv t.data ∧ ParOk own ∧ Good own t ∧ t.isW = false ∧ t.count ≤ 40 ∧ t.deep ≤ 6 ∧
  ∀ H', PAt K C H' p nm own t → Kp p H H' → (∀ D o, H D = some o → D ≠ p → PAtD K C H' D p nm own t) → Q .non H'
def spGet (K : PySem.W.Frag) (C : Addr) (g : Str) : Sp := fun vs H Q _ => ∃ (a dx : Addr) (fs : List (Str × V)) (v : V), vs = [.ref a] ∧ H a = some (.ins C dx fs) ∧ fs.lookup g = some v ∧ Q v H
def spLen (K : PySem.W.Frag) (C : Addr) : Sp := fun vs H Q _ => ∃ (a : Addr) (nm : Str) (own : List (Str × Bool)) (t : Tm), vs = [.ref a] ∧ PAt K C H a nm own t ∧ Q (.int (t.count : Int)) H
def spEqT (K : PySem.W.Frag) (C : Addr) : Sp := fun vs H Q _ => ∃ (a : Addr) (y : V) (nm : Str) (own : List (Str × Bool)) (t : Tm), vs = [.ref a, y] ∧ PAt K C H a nm own t ∧
  ((∃ ty, TyX K H y ty ∧ PySem.W.kitOne K ty (.ref C) = some false ∧ Q (.bl false) H) ∨
  (∃ (b : Addr) (nm' : Str) (own' : List (Str × Bool)) (t' : Tm), y = .ref b ∧ PAt K C H b nm' own' t' ∧ Q (.bl (nm == nm' && PyData.eqv (parsD own) (parsD own') && PyData.eqv t.data t'.data)) H))
def telling (nm : Str) (n m : Nat) : Str := (((((Str.empty ++ "procedure ") ++ nm) ++ ", ") ++ toString (n : Int)) ++ " parameters, ") ++ toString (m : Int) ++ " terms"
def spStr (K : PySem.W.Frag) (C : Addr) : Sp := fun vs H Q _ => ∃ (a : Addr) (nm : Str) (own : List (Str × Bool)) (t : Tm), vs = [.ref a] ∧ PAt K C H a nm own t ∧ ∀ z, z = telling nm own.length t.count → Q (.str z) H
end FS
set_option Elab.async false
set_option linter.all false
set_option maxRecDepth 100000
set_option maxHeartbeats 4000000
namespace FS
open PySem PySem.Spec PyProof.Rows L2
theorem fm_some {α : Type} {l : List α} {i : Nat} {x : α} {f : α → Option Str} {z : Str} (h : l[i]? = some x) (e : f x = some z) : (l.take (i + 1)).filterMap f = (l.take i).filterMap f ++ [z] := by
  rw [take_more h, List.filterMap_append, List.filterMap_cons, e]
  rfl
theorem fm_none {α : Type} {l : List α} {i : Nat} {x : α} {f : α → Option Str} (h : l[i]? = some x) (e : f x = none) : (l.take (i + 1)).filterMap f = (l.take i).filterMap f := by
  rw [take_more h, List.filterMap_append, List.filterMap_cons, e]
  exact List.append_nil _
theorem fm_len {α : Type} (l : List α) (i : Nat) (f : α → Option Str) : ((l.take i).filterMap f).length ≤ l.length := Nat.le_trans (List.length_filterMap_le _ _) (by rw [List.length_take]; exact Nat.min_le_right _ _)
theorem datas_at {K : PySem.W.Frag} {H : Hp} {xs : List V} {ts : List Tm} (r : DpAll K H xs (datas ts)) {i : Nat} {x : V} (h : xs[i]? = some x) : ∃ u, ts[i]? = some u ∧ Dp K H x u.data := DpAll.kid r h
/-- a deed's word stands behind its tag -/
theorem deed_open {K : PySem.W.Frag} {H : Hp} {x : V} {u : Tm} (d : Dp K H x u.data) : ∃ a xs, x = .ref a ∧ SqT K H a (V.str u.hd.tag :: xs) ∧
    ((u.hd.num = 0 ∧ ∃ w ys, wordOf u = some w ∧ xs = .str w :: ys) ∨ (u.hd.num ≠ 0 ∧ wordOf u = none)) ∧ ((u.hd.is2 = true ∧ ∃ w ys, useOf u = some w ∧ xs = .str w :: ys) ∨ (u.hd.is2 = false ∧ useOf u = none)) := by
  obtain ⟨h, ks⟩ := u
  obtain ⟨a, rs, kv, rfl, sq, r1, r2⟩ := tm_open d
  refine ⟨a, rs ++ kv, rfl, sq, ?_, ?_⟩
  · cases h with
    | deed w t =>
      cases r1 with
      | cons x1 r =>
        cases Dp.str_inv x1
        exact .inl ⟨rfl, w, _, rfl, rfl⟩
    | seq => exact .inr ⟨(fun z : (1:Nat) = 0 => nomatch z), rfl⟩
    | alt => exact .inr ⟨(fun z : (2:Nat) = 0 => nomatch z), rfl⟩
    | run x => exact .inr ⟨(fun z : (3:Nat) = 0 => nomatch z), rfl⟩
    | call n => exact .inr ⟨(fun z : (4:Nat) = 0 => nomatch z), rfl⟩
    | wrp => exact .inr ⟨(fun z : (5:Nat) = 0 => nomatch z), rfl⟩
    | own x => exact .inr ⟨(fun z : (6:Nat) = 0 => nomatch z), rfl⟩
    | wth n => exact .inr ⟨(fun z : (7:Nat) = 0 => nomatch z), rfl⟩
  · cases h with
    | call n =>
      cases r1 with
      | cons x1 r =>
        cases Dp.str_inv x1
        exact .inl ⟨rfl, n, _, rfl, rfl⟩
    | wth n =>
      cases r1 with
      | cons x1 r =>
        cases Dp.str_inv x1
        exact .inl ⟨rfl, n, _, rfl, rfl⟩
    | deed w t => exact .inr ⟨rfl, rfl⟩
    | seq => exact .inr ⟨rfl, rfl⟩
    | alt => exact .inr ⟨rfl, rfl⟩
    | run x => exact .inr ⟨rfl, rfl⟩
    | wrp => exact .inr ⟨rfl, rfl⟩
    | own x => exact .inr ⟨rfl, rfl⟩
theorem uniq_small {l : List Str} {n : Nat} (h : l.length ≤ n) (hn : n ≤ 200) : (uniq l).length + 1 < scanBound := by
  have := uniq_len l
  have e : scanBound = 4096 := rfl
  omega
theorem putA {f g : Str} {v x : V} {r : List (Str × V)} (h : ¬ g = f) : putF f v ((g, x) :: r) = (g, x) :: putF f v r := if_neg h
theorem pf2 {a v : V} : putF "_parameters" v [("_named", a)] = ([("_named", a), ("_parameters", v)] : List (Str × V)) := by
  rw [putA (by decide +kernel)]
  rfl
theorem pf3 {a b v : V} : putF "_body" v [("_named", a), ("_parameters", b)] = ([("_named", a), ("_parameters", b), ("_body", v)] : List (Str × V)) := by
  rw [putA (by decide +kernel), putA (by decide +kernel)]
  rfl
theorem pf4 {a b c v : V} : putF "_parts" v [("_named", a), ("_parameters", b), ("_body", c)] = ([("_named", a), ("_parameters", b), ("_body", c), ("_parts", v)] : List (Str × V)) := by
  rw [putA (by decide +kernel), putA (by decide +kernel), putA (by decide +kernel)]
  rfl
theorem pf5 {a b c d v : V} : putF "_kinds" v [("_named", a), ("_parameters", b), ("_body", c), ("_parts", d)] = ([("_named", a), ("_parameters", b), ("_body", c), ("_parts", d), ("_kinds", v)] : List (Str × V)) := by
  rw [putA (by decide +kernel), putA (by decide +kernel), putA (by decide +kernel), putA (by decide +kernel)]
  rfl
theorem pf6 {a b c d e v : V} : putF "_words" v [("_named", a), ("_parameters", b), ("_body", c), ("_parts", d), ("_kinds", e)] = ([("_named", a), ("_parameters", b), ("_body", c), ("_parts", d), ("_kinds", e), ("_words", v)] : List (Str × V)) := by
  rw [putA (by decide +kernel), putA (by decide +kernel), putA (by decide +kernel), putA (by decide +kernel), putA (by decide +kernel)]
  rfl
theorem pf7 {a b c d e f v : V} : putF "_uses" v [("_named", a), ("_parameters", b), ("_body", c), ("_parts", d), ("_kinds", e), ("_words", f)] = ([("_named", a), ("_parameters", b), ("_body", c), ("_parts", d), ("_kinds", e), ("_words", f), ("_uses", v)] : List (Str × V)) := by
  rw [putA (by decide +kernel), putA (by decide +kernel), putA (by decide +kernel), putA (by decide +kernel), putA (by decide +kernel), putA (by decide +kernel)]
  rfl
theorem lkH {k : Str} {v : V} {r : List (Str × V)} : List.lookup k ((k, v) :: r) = some v := by
  have e : (k == k) = true := beq_self_eq_true k
  simp only [List.lookup, e]
theorem lkP {k g : Str} {v : V} {r : List (Str × V)} (h : (k == g) = false) : List.lookup k ((g, v) :: r) = List.lookup k r := by
  simp only [List.lookup, h]
theorem lkq4 {a b c d e : V} : ([("_named", a), ("_parameters", b), ("_body", c), ("_parts", d), ("_kinds", e)] : List (Str × V)).lookup ("_parts" : Str) = some d := (lkP (by decide +kernel)).trans ((lkP (by decide +kernel)).trans ((lkP (by decide +kernel)).trans lkH))
theorem lkr4 {a b c d e f : V} : ([("_named", a), ("_parameters", b), ("_body", c), ("_parts", d), ("_kinds", e), ("_words", f)] : List (Str × V)).lookup ("_parts" : Str) = some d := (lkP (by decide +kernel)).trans ((lkP (by decide +kernel)).trans ((lkP (by decide +kernel)).trans lkH))
section
variable {nm : Str} {pv bv : V} {pa ka wa ua : Addr}
theorem lk1 : (prF nm pv bv pa ka wa ua).lookup ("_named" : Str) = some (.str nm) := lkH
theorem lk2 : (prF nm pv bv pa ka wa ua).lookup ("_parameters" : Str) = some pv := (lkP (by decide +kernel)).trans lkH
theorem lk3 : (prF nm pv bv pa ka wa ua).lookup ("_body" : Str) = some bv := (lkP (by decide +kernel)).trans ((lkP (by decide +kernel)).trans lkH)
theorem lk4 : (prF nm pv bv pa ka wa ua).lookup ("_parts" : Str) = some (.ref pa) := (lkP (by decide +kernel)).trans ((lkP (by decide +kernel)).trans ((lkP (by decide +kernel)).trans lkH))
theorem lk5 : (prF nm pv bv pa ka wa ua).lookup ("_kinds" : Str) = some (.ref ka) := (lkP (by decide +kernel)).trans ((lkP (by decide +kernel)).trans ((lkP (by decide +kernel)).trans ((lkP (by decide +kernel)).trans lkH)))
theorem lk6 : (prF nm pv bv pa ka wa ua).lookup ("_words" : Str) = some (.ref wa) := (lkP (by decide +kernel)).trans ((lkP (by decide +kernel)).trans ((lkP (by decide +kernel)).trans ((lkP (by decide +kernel)).trans ((lkP (by decide +kernel)).trans lkH))))
end
end FS
namespace FS
open PySem PySem.Spec PyProof.Rows L2
theorem len_app (a b : Str) : (a ++ b).length = a.length + b.length := by
  show (a.cps ++ b.cps).size = a.cps.size + b.cps.size
  exact Array.size_append ..
theorem small_log (n : Nat) (h : n < 100) : ((n : Int)).natAbs.log2 < 1920 := by
  have e : ((n : Int)).natAbs = n := rfl
  rw [e]
  exact Nat.lt_of_le_of_lt (Nat.log2_le_self n) (by omega)
end FS
set_option Elab.async false
set_option linter.all false
set_option maxRecDepth 100000
set_option maxHeartbeats 4000000
/-! the law's side: dice, drawn values, tables of parameters -/
namespace FS
open PySem PySem.Spec PyProof.Rows L2
section
variable {X : Cx}
def CPowW (i j : Int) : Prop := 0 ≤ j ∧ (Builtin.Int.intBits i : Int) * j ≤ 2 ^ 27
theorem op_powW : OpR X (binaryOp .Pow) (rI CPowW fun i j => .int (i ^ j.toNat)) := opI fun _ _ _ _ _ _ _ hc q => pow_int hc.1 hc.2 q
end
section
variable {X : Cx} {K : PySem.W.Frag}
theorem sl_tupK (h : X.K = K) : SlR X (rSlA K) := by
  subst h
  exact sl_tupA
theorem op_eqDK (h : X.K = K) (hu : X.A.units + 64 < cLine) : OpR X (compareOp .Eq) (rEqD K) := by
  subst h
  exact op_eqD hu
end
def Die (H : Hp) (a : Addr) : Prop := ∃ x y z : Int, H a = some (.lst [.int x, .int y, .int z])
/-- all but a is as it was, and a is a die -/
def Go (a : Addr) (H H' : Hp) : Prop := (∀ b o, b ≠ a → H b = some o → H' b = some o) ∧ Die H' a
theorem Die.same {H H' : Hp} {a : Addr} (d : Die H a) (s : Same H H') : Die H' a := by
  obtain ⟨x, y, z, e⟩ := d
  exact ⟨x, y, z, s _ _ e⟩
theorem Go.of {H H' : Hp} {a : Addr} (d : Die H a) (s : Same H H') : Go a H H' := ⟨fun b o _ e => s b o e, d.same s⟩
theorem Go.refl {H : Hp} {a : Addr} (d : Die H a) : Go a H H := .of d (.refl H)
theorem Go.trans {H H1 H2 : Hp} {a : Addr} (x : Go a H H1) (y : Go a H1 H2) : Go a H H2 := ⟨fun b o n e => y.1 b o n (x.1 b o n e), y.2⟩
theorem Go.same {H H1 H2 : Hp} {a : Addr} (x : Go a H H1) (y : Same H1 H2) : Go a H H2 := x.trans (.of x.2 y)
theorem Go.setDie {H : Hp} {a : Addr} {x y z : Int} : Go a H (upd H a (.lst [.int x, .int y, .int z])) := ⟨fun b o n e => by rw [upd_ne n]; exact e, x, y, z, upd_same⟩
theorem Go.new {H : Hp} {a p : Addr} {o : HO} (d : Die H a) (h : H p = none) : Go a H (upd H p o) := .of d (same_upd h)
theorem Die.ne {H : Hp} {a p : Addr} (d : Die H a) (h : H p = none) : p ≠ a := fun e => by
  obtain ⟨x, y, z, q⟩ := d
  rw [← e, h] at q
  cases q
/-- a fresh thing may change -/
theorem Go.upd {H H1 : Hp} {a p : Addr} {o : HO} (g : Go a H H1) (np : H p = none) (n : p ≠ a) : Go a H (upd H1 p o) := ⟨fun b u nb e => by
  rw [upd_ne (ne_of_none e np)]
  exact g.1 b u nb e, by
  obtain ⟨x, y, z, e⟩ := g.2
  exact ⟨x, y, z, by rw [upd_ne n.symm]; exact e⟩⟩
theorem Go.seq {K : PySem.W.Frag} {H H' : Hp} {a b : Addr} {xs : List V} (g : Go a H H') (n : b ≠ a) (h : SqL K H b xs) : SqL K H' b xs := by
  rcases h with (h | ⟨o, h⟩) | h
  · exact .inl (.inl (g.1 _ _ n h))
  · exact .inl (.inr ⟨o, g.1 _ _ n h⟩)
  · exact .inr h
theorem Go.tk {H H' : Hp} {a : Addr} (d : Die H a) (g : Go a H H') : TK H H' := fun b o t e => g.1 b o (fun z => by
  subst z
  obtain ⟨x, y, w, q⟩ := d
  rw [q] at e
  cases Option.some.inj e
  cases t) e
def Asc (z : Str) : Prop := ∀ c ∈ z.cps.toList, c < 128
/-- the values that are drawn: none of them the die -/
inductive Knd (H : Hp) (a : Addr) : V → Prop
  | non : Knd H a .non
  | bl (b : Bool) : Knd H a (.bl b)
  | int (i : Int) : Knd H a (.int i)
  | str (z : Str) (h : z.length ≤ 30000) (h2 : Asc z) : Knd H a (.str z)
  | tup {p : Addr} {xs : List V} (n : p ≠ a) (e : H p = some (.tup xs)) : Knd H a (.ref p)
  | lst {p : Addr} {xs : List V} (n : p ≠ a) (e : H p = some (.lst xs)) : Knd H a (.ref p)
  | dct {p : Addr} {kvs : List (Key × V)} (n : p ≠ a) (e : H p = some (.dK kvs)) : Knd H a (.ref p)
theorem Knd.go {H H' : Hp} {a : Addr} {v : V} (k : Knd H a v) (g : Go a H H') : Knd H' a v := by
  cases k with
  | non => exact .non
  | bl b => exact .bl b
  | int i => exact .int i
  | str z h h2 => exact .str z h h2
  | tup n e => exact .tup n (g.1 _ _ n e)
  | lst n e => exact .lst n (g.1 _ _ n e)
  | dct n e => exact .dct n (g.1 _ _ n e)
def KL (H : Hp) (a : Addr) (xs : List V) : Prop := ∀ v ∈ xs, Knd H a v
theorem KL.go {H H' : Hp} {a : Addr} {xs : List V} (k : KL H a xs) (g : Go a H H') : KL H' a xs := fun v h => (k v h).go g
theorem KL.nil {H : Hp} {a : Addr} : KL H a [] := fun v h => nomatch h
theorem KL.cons {H : Hp} {a : Addr} {x : V} {xs : List V} (h : Knd H a x) (k : KL H a xs) : KL H a (x :: xs) := fun v hv => by
  rcases List.mem_cons.mp hv with rfl | e
  · exact h
  · exact k v e
/-- the drawn values are no procedures -/
structure NoP (K : PySem.W.Frag) (C : Addr) : Prop where
  kn : PySem.W.kitOne K (.type "NoneType") (.ref C) = some false
  kb : PySem.W.kitOne K (.type "bool") (.ref C) = some false
  ki : PySem.W.kitOne K (.type "int") (.ref C) = some false
  ks : PySem.W.kitOne K (.type "str") (.ref C) = some false
  kt : PySem.W.kitOne K (.type "tuple") (.ref C) = some false
  kl : PySem.W.kitOne K (.type "list") (.ref C) = some false
  kd : PySem.W.kitOne K (.type "dict") (.ref C) = some false
  nn : PySem.W.notFirst K C (.type "NoneType") = true
  nb : PySem.W.notFirst K C (.type "bool") = true
  ni : PySem.W.notFirst K C (.type "int") = true
  ns : PySem.W.notFirst K C (.type "str") = true
  nt : PySem.W.notFirst K C (.type "tuple") = true
  nl : PySem.W.notFirst K C (.type "list") = true
  nd : PySem.W.notFirst K C (.type "dict") = true
theorem Knd.nop {K : PySem.W.Frag} {C : Addr} {H : Hp} {a : Addr} {v : V} (k : Knd H a v) (n : NoP K C) : ∃ t, TyX K H v t ∧ PySem.W.kitOne K t (.ref C) = some false ∧ PySem.W.notFirst K C t = true := by
  cases k with
  | non => exact ⟨_, .base .non, n.kn, n.nn⟩
  | bl b => exact ⟨_, .base (.bl b), n.kb, n.nb⟩
  | int i => exact ⟨_, .base (.int i), n.ki, n.ni⟩
  | str z h h2 => exact ⟨_, .base (.str z), n.ks, n.ns⟩
  | tup _ e => exact ⟨_, .base (.tup e), n.kt, n.nt⟩
  | lst _ e => exact ⟨_, .base (.lst e), n.kl, n.nl⟩
  | dct _ e => exact ⟨_, .base (.dK e), n.kd, n.nd⟩
theorem cut_ne {α : Type} {xs : List α} {k : Nat} (hk : 0 < k) (hne : xs ≠ []) : HT.sIx xs.length 0 (some (k : Int)) ≠ 0 := by
  rw [HT.sIx_nat]
  have : 0 < xs.length := List.length_pos_iff.mpr hne
  omega
/-! ### tables of parameters -/
abbrev Tbl := List (Str × List (Str × Bool))
inductive TabV (K : PySem.W.Frag) (H : Hp) : List (Key × V) → Tbl → Prop
  | nil : TabV K H [] []
  | cons {x : Str} {v : V} {own : List (Str × Bool)} {kvs : List (Key × V)} {tb : Tbl} (h : Dp K H v (parsD own)) (po : ParOk own) (wd : wordB x = true) (r : TabV K H kvs tb) : TabV K H ((Sum.inr x, v) :: kvs) ((x, own) :: tb)
def TabAt (K : PySem.W.Frag) (H : Hp) (a : Addr) (tb : Tbl) : Prop := ∃ kvs, H a = some (.dK kvs) ∧ TabV K H kvs tb ∧ tb.length ≤ 8
theorem TabV.tk {K : PySem.W.Frag} {H H' : Hp} (e : TK H H') {kvs : List (Key × V)} {tb : Tbl} (t : TabV K H kvs tb) : TabV K H' kvs tb := by
  induction t with
  | nil => exact .nil
  | cons h po wd r ih => exact .cons (Dp.tk e (pars_noL _) h) po wd ih
theorem TabV.keys {K : PySem.W.Frag} {H : Hp} {kvs : List (Key × V)} {tb : Tbl} (t : TabV K H kvs tb) : kvs.map (·.1) = (tb.map (·.1)).map Sum.inr := by
  induction t with
  | nil => rfl
  | cons h po wd r ih => rw [List.map_cons, ih]; rfl
theorem TabV.get {K : PySem.W.Frag} {H : Hp} {kvs : List (Key × V)} {tb : Tbl} (t : TabV K H kvs tb) {x : Str} (h : x ∈ tb.map (·.1)) : ∃ v own, valV kvs (Sum.inr x) = some v ∧ Dp K H v (parsD own) ∧ ParOk own ∧ (x, own) ∈ tb ∧ wordB x = true ∧ tb.lookup x = some own := by
  induction t with
  | nil => cases h
  | @cons y v own kvs tb hd po wd r ih =>
    by_cases e : y = x
    · subst e
      exact ⟨v, own, valV_pos rfl, hd, po, List.mem_cons_self, wd, by simp [List.lookup]⟩
    · have h2 : x ∈ tb.map (·.1) := by
        rcases List.mem_cons.mp h with z | z
        · exact absurd z.symm e
        · exact z
      obtain ⟨v2, own2, h3, h4, h5, h6, h7, h8⟩ := ih h2
      refine ⟨v2, own2, ?_, h4, h5, List.mem_cons_of_mem _ h6, h7, ?_⟩
      · rw [valV_neg (fun z => e (Sum.inr.inj z))]
        exact h3
      · have : (x == y) = false := by simpa using fun z : x = y => e z.symm
        simp only [List.lookup, this]
        exact h8
theorem TabAt.go {K : PySem.W.Frag} {H H' : Hp} {D a : Addr} {tb : Tbl} (d : Die H D) (g : Go D H H') (t : TabAt K H a tb) : TabAt K H' a tb := by
  obtain ⟨kvs, h1, h2, h3⟩ := t
  refine ⟨kvs, g.1 _ _ (fun z => ?_) h1, h2.tk (g.tk d), h3⟩
  subst z
  obtain ⟨x, y, w, q⟩ := d
  rw [q] at h1
  cases h1
theorem TabAt.same {K : PySem.W.Frag} {H H' : Hp} {a : Addr} {tb : Tbl} (s : Same H H') (t : TabAt K H a tb) : TabAt K H' a tb := by
  obtain ⟨kvs, h1, h2, h3⟩ := t
  exact ⟨kvs, s _ _ h1, h2.tk (.of s), h3⟩
/-! ### the promises -/
def spNumbers (K : PySem.W.Frag) : Sp := fun vs H Q _ => ∃ (a : Addr) (ns : List Int) (i : Nat), vs = [.ref a, .int (i : Int)] ∧ SqL K H a (ns.map V.int) ∧ i ≤ 1000 ∧ ∀ H' p, Same H H' → H p = none → Die H' p → Q (.ref p) H'
def spCast : Sp := fun vs H Q _ => ∃ (a : Addr) (n : Int), vs = [.ref a, .int n] ∧ Die H a ∧ 0 < n ∧ n < 1000000 ∧ ∀ r H', 0 ≤ r → r < n → Go a H H' → (∀ b, b ≠ a → H' b = H b) → Q (.int r) H'
def spPick (K : PySem.W.Frag) : Sp := fun vs H Q _ => ∃ (a b : Addr) (xs : List V), Die H a ∧ vs = [.ref a, .ref b] ∧ SqL K H b xs ∧ b ≠ a ∧ xs ≠ [] ∧ xs.length < 1000 ∧ ∀ v H', v ∈ xs → Go a H H' → (∀ b, b ≠ a → H' b = H b) → Q v H'
def namesOf (own : List (Str × Bool)) (k : Bool) : List Str := (own.filter fun p => p.2 == k).map (·.1)
def cb : Nat → Nat
  | 0 => 0
  | n + 1 => 1 + 3 * cb n
/-- how a head fits the modes and the table -/
def fitH (m : Int) (tb : Tbl) : Hd → List Bool → Bool
  | .deed _ t, _ => decide ((t.length : Int) = m) && t.all (fun e => match e with | none => true | some n => decide ((n : Int) < m))
  | .call x, ks => decide ((tb.lookup x).map (fun o => o.map (·.2)) = some ks)
  | .wth x, ks => decide ((tb.lookup x).map (fun o => o.map (·.2)) = some (ks ++ [false]))
  | _, _ => true
/-- right by its form, and fits -/
inductive GF (m : Int) (tb : Tbl) (own : List (Str × Bool)) : Tm → Prop
  | mk {h : Hd} {ks : List Tm} (ok : h.ok own ks.length = true) (kk : h.kidsOk (ks.map Tm.isW) = true) (kids : ∀ t ∈ ks, GF m tb own t) (fit : fitH m tb h (ks.map Tm.isW) = true) : GF m tb own (.mk h ks)
theorem GF.good {m : Int} {tb : Tbl} {own : List (Str × Bool)} {t : Tm} (g : GF m tb own t) : Good own t := by
  induction g with
  | mk ok kk _ _ ih => exact .mk ok kk ih
mutual
theorem fits_all {m : Int} {tb : Tbl} {own : List (Str × Bool)} : ∀ (t : Tm), GF m tb own t → ∀ u ∈ t.all, fitH m tb u.hd (u.kids.map Tm.isW) = true
  | .mk h ks, g, u, hu => by
    cases g with
    | mk ok kk kids fit =>
      rcases List.mem_cons.mp (show u ∈ Tm.mk h ks :: alls ks from hu) with rfl | hu
      · exact fit
      · exact fits_alls ks kids u hu
theorem fits_alls {m : Int} {tb : Tbl} {own : List (Str × Bool)} : ∀ (ks : List Tm), (∀ t ∈ ks, GF m tb own t) → ∀ u ∈ alls ks, fitH m tb u.hd (u.kids.map Tm.isW) = true
  | t :: r, g, u, hu => by
    rcases List.mem_append.mp (show u ∈ t.all ++ alls r from hu) with hu | hu
    · exact fits_all t (g t List.mem_cons_self) u hu
    · exact fits_alls r (fun x hx => g x (List.mem_cons_of_mem _ hx)) u hu
end
/-- v is a drawn part -/
structure Got (K : PySem.W.Frag) (H : Hp) (m : Int) (tb : Tbl) (own : List (Str × Bool)) (n : Nat) (b : Bool) (v : V) (t : Tm) : Prop where
  dp : Dp K H v t.data
  good : GF m tb own t
  kind : t.isW = b
  deep : t.deep ≤ n
  few : t.count ≤ cb n
theorem Got.tk {K : PySem.W.Frag} {H H' : Hp} {m : Int} {tb : Tbl} {own : List (Str × Bool)} {n : Nat} {b : Bool} {v : V} {t : Tm} (g : Got K H m tb own n b v t) (e : TK H H') : Got K H' m tb own n b v t := ⟨Dp.tk e t.noL g.dp, g.good, g.kind, g.deep, g.few⟩
/-- what a drawer of parts is called with -/
structure Ask (K : PySem.W.Frag) (H : Hp) (D ta : Addr) (m : Int) (tb : Tbl) (ov : V) (own : List (Str × Bool)) : Prop where
  die : Die H D
  tab : TabAt K H ta tb
  ne : tb ≠ []
  par : Dp K H ov (parsD own)
  po : ParOk own
  m1 : 1 ≤ m
  m3 : m ≤ 3
theorem Ask.go {K : PySem.W.Frag} {H H' : Hp} {D ta : Addr} {m : Int} {tb : Tbl} {ov : V} {own : List (Str × Bool)} (a : Ask K H D ta m tb ov own) (g : Go D H H') : Ask K H' D ta m tb ov own :=
  ⟨g.2, a.tab.go a.die g, a.ne, Dp.tk (g.tk a.die) (pars_noL own) a.par, a.po, a.m1, a.m3⟩
theorem Ask.same {K : PySem.W.Frag} {H H' : Hp} {D ta : Addr} {m : Int} {tb : Tbl} {ov : V} {own : List (Str × Bool)} (a : Ask K H D ta m tb ov own) (s : Same H H') : Ask K H' D ta m tb ov own := a.go (.of a.die s)
def entB (e : Option Nat) : Bool := match e with | none => true | some n => decide (n < 3)
def entryV : Option Nat → V
  | none => .non
  | some n => .int n
def entK (k : Nat) (e : Option Nat) : Bool := match e with | none => true | some n => decide (n < k)
theorem entK_B {k : Nat} {e : Option Nat} (h3 : k ≤ 3) (h : entK k e = true) : entB e = true := by
  cases e with
  | none => rfl
  | some n => exact decide_eq_true (Nat.lt_of_lt_of_le (of_decide_eq_true h) h3)
theorem deed_fit {k : Nat} {z : Str} {es : List (Option Nat)} {tb : Tbl} (l : es.length = k) (h : ∀ e ∈ es, entK k e = true) : fitH (k : Int) tb (.deed z es) [] = true := by
  show (decide ((es.length : Int) = (k : Int)) && es.all (fun e => match e with | none => true | some n => decide ((n : Int) < (k : Int)))) = true
  rw [decide_eq_true (by omega), List.all_eq_true.mpr fun e he => ?_]
  · rfl
  · have := h e he
    cases e with
    | none => rfl
    | some n =>
      have l := of_decide_eq_true this
      exact decide_eq_true (by omega)
end FS
set_option Elab.async false
set_option linter.all false
set_option maxRecDepth 100000
set_option maxHeartbeats 4000000
namespace FS
open PySem PySem.Spec PyProof.Rows L2
theorem u1 {k : Nat} {A : Around} (r : L2.Room k A) : A.units + 1 < cLine := by
  have := r.un
  omega
theorem strs_lay : ∀ ys : List Str, (∀ z ∈ ys, PyData.strOk z = true) → PyData.canLayAll0 (ys.map PyData.str) = true ∧ PyData.depthAll (ys.map PyData.str) = 0
  | [], _ => ⟨rfl, rfl⟩
  | y :: r, h => by
    obtain ⟨h1, h2⟩ := strs_lay r fun z hz => h z (List.mem_cons_of_mem _ hz)
    refine ⟨?_, ?_⟩
    · show (PyData.strOk y && PyData.canLayAll0 (r.map PyData.str)) = true
      rw [h y List.mem_cons_self, h1]
      rfl
    · show max 0 (PyData.depthAll (r.map PyData.str)) = 0
      rw [h2]
      rfl
theorem list_shaped {ys : List Str} (h : ∀ z ∈ ys, PyData.strOk z = true) : SeqAt.shaped (.list (ys.map PyData.str)) = true := by
  obtain ⟨h1, h2⟩ := strs_lay ys h
  unfold SeqAt.shaped
  rw [show PyData.canLay0 (.list (ys.map PyData.str)) = true from h1, decide_eq_true (show PyData.depth (.list (ys.map PyData.str)) ≤ 64 by
    show PyData.depthAll (ys.map PyData.str) + 1 ≤ 64
    omega)]
  rfl
theorem ne_nil {K : PySem.W.Frag} {H : Hp} {p q : Addr} {ys : List Str} {Q : VK} (e : H p = some (.lst (ys.map V.str))) (f : H q = some (.lst [])) (ok : ∀ z ∈ ys, PyData.strOk z = true) (h : Q (.bl (!ys.isEmpty)) H) : rNeD K (.ref p) (.ref q) H Q := by
  refine ⟨.list (ys.map PyData.str), .list [], .lst (.inl (.inl e)) (dp_strs ys), .lst (.inl (.inl f)) .nil, list_shaped ok, rfl, ?_⟩
  have : PyData.eqv (.list (ys.map PyData.str)) (.list []) = ys.isEmpty := by
    cases ys <;> rfl
  rw [this]
  exact h
theorem neg_ix (n d : Nat) : HT.sIx n d (some (-1)) = n - 1 := by
  show (if (-1 : Int) < 0 then ((-1 : Int) + (n : Int)).toNat else min (-1 : Int).toNat n) = n - 1
  rw [if_pos (by omega)]
  omega
/-- xs[-1:] -/
theorem cut_last {K : PySem.W.Frag} {H : Hp} {a : Addr} {xs : List V} {Q : VK} (sq : SqT K H a xs) (q : ∀ H' p, Same H H' → SqT K H' p (xs.drop (xs.length - 1)) → Q (.ref p) H') : rSlA K (.ref a) (some (-1)) none H Q := by
  refine ⟨a, xs, rfl, sq, fun z => ?_, fun _ p np => q _ p (same_upd np) (.inl (.inl ?_))⟩
  · have e := z.1
    rw [neg_ix] at e
    have := q H a (.refl H)
    rw [e] at this
    exact this sq
  · rw [upd_same]
    show some (HO.tup ((xs.drop (HT.sIx xs.length 0 (some (-1)))).take (xs.length - HT.sIx xs.length 0 (some (-1))))) = _
    rw [neg_ix, List.take_of_length_le (by rw [List.length_drop]; exact Nat.le_refl _)]
/-- xs[:-1] -/
theorem cut_init {K : PySem.W.Frag} {H : Hp} {a : Addr} {xs : List V} {Q : VK} (sq : SqT K H a xs) (q : ∀ H' p, Same H H' → SqT K H' p (xs.take (xs.length - 1)) → Q (.ref p) H') : rSlA K (.ref a) none (some (-1)) H Q := by
  refine ⟨a, xs, rfl, sq, fun z => ?_, fun _ p np => q _ p (same_upd np) (.inl (.inl ?_))⟩
  · have e := z.2
    rw [neg_ix] at e
    have := q H a (.refl H)
    rw [e, List.take_length] at this
    exact this sq
  · rw [upd_same]
    show some (HO.tup ((xs.drop 0).take (HT.sIx xs.length xs.length (some (-1)) - 0))) = _
    rw [neg_ix]
    rfl
/-- xs + ys, of tuples -/
theorem cat_tup {K : PySem.W.Frag} {H : Hp} {a b : Addr} {xs ys : List V} {Q : VK} (sx : SqT K H a xs) (sy : SqT K H b ys) (hne : xs ≠ []) (hl : xs.length + ys.length < 16000) (q : ∀ H' p, Same H H' → SqT K H' p (xs ++ ys) → Q (.ref p) H') : rCatA K (.ref a) (.ref b) H Q := by
  refine ⟨a, b, xs, ys, rfl, rfl, sx, sy, Nat.le_of_lt (small16 hl), fun z => absurd z hne, fun _ e => ?_, fun _ _ p np => q _ p (same_upd np) (.inl (.inl upd_same))⟩
  subst e
  have := q H a (.refl H)
  rw [List.append_nil] at this
  exact this sx
theorem gives_deep {us : List Tm} {j c : Nat} (h : ∀ u ∈ us, u.deep ≤ j ∧ u.count ≤ c) : deeps us ≤ j ∧ counts us ≤ us.length * c := by
  induction us with
  | nil => exact ⟨Nat.zero_le _, Nat.zero_le _⟩
  | cons u r ih =>
    obtain ⟨h1, h2⟩ := ih fun z hz => h z (List.mem_cons_of_mem _ hz)
    obtain ⟨h3, h4⟩ := h u List.mem_cons_self
    refine ⟨?_, ?_⟩
    · show max u.deep (deeps r) ≤ j
      omega
    · rw [counts_cons, List.length_cons, Nat.succ_mul]
      omega
theorem names_ok {own : List (Str × Bool)} {k : Bool} {z : Str} (h : z ∈ namesOf own k) : (z, k) ∈ own := by
  obtain ⟨p, hp, rfl⟩ := List.mem_map.mp h
  obtain ⟨h1, h2⟩ := List.mem_filter.mp hp
  rw [← beq_iff_eq.mp h2]
  exact h1
theorem names_word {own : List (Str × Bool)} (po : ParOk own) {k : Bool} {z : Str} (h : z ∈ namesOf own k) : PyData.strOk z = true := (word_ok (po.nms _ (names_ok h))).1
theorem names_few {own : List (Str × Bool)} (po : ParOk own) (k : Bool) : (namesOf own k).length ≤ 3 := by
  unfold namesOf
  rw [List.length_map]
  exact Nat.le_trans (List.length_filter_le _ _) po.few
end FS
namespace FS
open PySem PySem.Spec PyProof.Rows L2
theorem ParOk.sub {o l : List (Str × Bool)} (h : ParOk o) (s : l.Sublist o) : ParOk l := ⟨Nat.le_trans s.length_le h.few, fun p hp => h.nms p (s.mem hp), (h.nd.sublist (s.map _))⟩
theorem DpAll.take9 {K : PySem.W.Frag} {H : Hp} : ∀ (n : Nat) {vs : List V} {ds : List PyData}, DpAll K H vs ds → DpAll K H (vs.take n) (ds.take n)
  | 0, _, _, _ => .nil
  | n + 1, _, _, .nil => .nil
  | n + 1, _, _, .cons h r => .cons h (DpAll.take9 n r)
end FS
set_option Elab.async false
set_option linter.all false
set_option maxRecDepth 100000
set_option maxHeartbeats 4000000
namespace FS
open PySem PySem.Spec PyProof.Rows L2
section
variable {P : Program} {w : World} {K : PySem.W.Frag} {mg : Str → Option Value} {base : Heap}
theorem Cal.up {j k : Nat} {x : Str} {ps : List Str} {sp : Sp} (C : Cal P w K mg base j x ps sp) (h : j ≤ k) : Cal P w K mg base k x ps sp := by
  obtain ⟨f, fd, F, m, kp, b⟩ := C.ex
  exact ⟨f, fd, F.mono h, m, kp, b⟩
end
/-- a drawn body -/
structure Body (K : PySem.W.Frag) (H : Hp) (m : Int) (tb : Tbl) (own : List (Str × Bool)) (v : V) (t : Tm) : Prop where
  dp : Dp K H v t.data
  good : Good own t
  kind : t.isW = false
  deep : t.deep ≤ 4
  few : t.count ≤ 40
  fits : GF m tb own t
theorem Body.tk {K : PySem.W.Frag} {H H' : Hp} {m : Int} {tb : Tbl} {own : List (Str × Bool)} {v : V} {t : Tm} (g : Body K H m tb own v t) (e : TK H H') : Body K H' m tb own v t := ⟨Dp.tk e t.noL g.dp, g.good, g.kind, g.deep, g.few, g.fits⟩
end FS
set_option Elab.async false
set_option linter.all false
namespace FS
open PySem PySem.Spec PyProof.Rows L2
def topS (i : Nat) : Stmt := PySem.Challenge.pw_blockshanded_k28_contexts_judged.main.body.getD i (.Pass ⟨0, 0, 0, 0⟩)
abbrev sis_integer_in : Stmt := topS 2
abbrev sare_integers_below : Stmt := topS 3
abbrev sis_name : Stmt := topS 6
abbrev skind_of : Stmt := topS 12
abbrev skinds_of : Stmt := topS 13
abbrev sparts_in : Stmt := topS 14
abbrev skinds_in : Stmt := topS 15
abbrev sall_parts : Stmt := topS 17
abbrev sis_deed_table : Stmt := topS 18
abbrev shas_form : Stmt := topS 19
abbrev sis_parameter : Stmt := topS 31
abbrev sare_parameters : Stmt := topS 32
abbrev sis_term : Stmt := topS 33
abbrev sProcedure : Stmt := topS 34
abbrev sProcedure__init__ : Stmt := inClass sProcedure 0
abbrev sProcedurenamed : Stmt := inClass sProcedure 1
abbrev sProcedureparameters : Stmt := inClass sProcedure 2
abbrev sProcedurebody : Stmt := inClass sProcedure 3
abbrev sProcedurekinds : Stmt := inClass sProcedure 4
abbrev sProcedurewords : Stmt := inClass sProcedure 5
abbrev sProcedure__len__ : Stmt := inClass sProcedure 7
abbrev sProcedure__eq__ : Stmt := inClass sProcedure 8
abbrev sProcedure__str__ : Stmt := inClass sProcedure 9
abbrev skinds_by_name : Stmt := topS 38
abbrev shave_wraps : Stmt := topS 39
abbrev sare_procedures : Stmt := topS 40
abbrev sfits : Stmt := topS 41
abbrev scan_make_program : Stmt := topS 42
abbrev sProgram : Stmt := topS 43
abbrev sProgram__init__ : Stmt := inClass sProgram 0
abbrev sProgramof : Stmt := inClass sProgram 1
abbrev sProgrammodes : Stmt := inClass sProgram 2
abbrev sProgramprocedures : Stmt := inClass sProgram 3
abbrev sProgram__eq__ : Stmt := inClass sProgram 13
abbrev scheck_program : Stmt := topS 45
abbrev scheck_word : Stmt := topS 46
abbrev scheck_optional_word : Stmt := topS 47
abbrev ssame_of : Stmt := topS 50
abbrev sSpace : Stmt := topS 52
abbrev sSpace__init__ : Stmt := inClass sSpace 0
abbrev sSpacesize : Stmt := inClass sSpace 4
abbrev sSpaceis_table : Stmt := inClass sSpace 11
abbrev sspace_of : Stmt := topS 54
abbrev shas_context_form : Stmt := topS 55
abbrev skinds_in_b : Stmt := topS 56
abbrev sis_context : Stmt := topS 58
abbrev s_law_sack : Stmt := topS 60
abbrev s_law_deal : Stmt := topS 61
abbrev s_law_pick : Stmt := topS 62
abbrev s_law_deed : Stmt := topS 63
abbrev s_law_handed : Stmt := topS 64
abbrev s_law_call : Stmt := topS 65
abbrev s_law_term : Stmt := topS 66
abbrev s_law_wild : Stmt := topS 67
abbrev s_law_framed : Stmt := topS 68
abbrev s_law_plain : Stmt := topS 69
abbrev s_law_made : Stmt := topS 70
abbrev s_law_by_name : Stmt := topS 71
abbrev s_law_powers : Stmt := topS 72
abbrev s_law_space : Stmt := topS 73
abbrev s_law_code : Stmt := topS 74
abbrev s_law_is_relation : Stmt := topS 75
abbrev s_law_is_meaning : Stmt := topS 76
abbrev s_law_due : Stmt := topS 77
abbrev s_law_values : Stmt := topS 78
abbrev s_law_right : Stmt := topS 79
abbrev slaw : Stmt := topS 80
end FS
set_option Elab.async false
set_option linter.all false
set_option maxRecDepth 100000
set_option maxHeartbeats 4000000
namespace FS
open PySem PySem.Spec PyProof.Rows L2
section
variable {P : Program} {w : World} {K : PySem.W.Frag} {mg : Str → Option Value} {base : Heap}
abbrev Nkind_of : List Str := ["value"]
theorem sckind_of : FnScope Nkind_of ["value"] (defScope skind_of) := ⟨rfl, rfl, rfl, by decide +kernel, rfl, by decide +kernel, by decide +kernel⟩
theorem ok_kind_of {f : Addr} {fd : FuncData} (F : Fun K "kind_of" "kind_of" skind_of f fd) (T : Nm K mg) : FnOk P w K mg base CX0 1 f fd ["value"] (spKind K) := by
  have nd := sckind_of.nd
  refine F.ok sckind_of (fun vs H Q E h => ?_) (fun cdv A outer s H vs Q E hr h => ?_)
  · obtain ⟨own, v, t, rfl, _⟩ := h
    rfl
  · obtain ⟨own, v, t, rfl, tm, q⟩ := h
    obtain ⟨aT, gT, sT⟩ := T.g_TERM_TAGS
    obtain ⟨aW, gW, sW⟩ := T.g_WRAP_TAGS
    refine ⟨_, (pss_cons (ps_if (PW.pt (pw_or (pt_not (pt_val (pe_callB call_isi (by rfl) T.b_isinstance (by decide +kernel) (pa_cons (pv 0) (pa_cons (pe_bltn (v := .ty "tuple") (by rfl) T.b_tuple (by decide +kernel) rfl) pa_nil))))) (pw_or1 (pt_cmpR (op_eqD hr.units) (pv 0) (pe_tup pa_nil) (nomark _)))))
  (pss_one (ps_ret pe_non))
  pss_nil)
  (pss_cons (ps_if (pt_cmpR op_in_seq (pe_ix ix_tup (pv 0) pe_int (fun _ _ => rfl)) (pe_glob (v := .ref aT) (by rfl) gT rfl) (by rfl))
  (pss_one (ps_ret pe_str))
  pss_nil)
  (pss_cons (ps_if (pt_cmpR op_in_seq (pe_ix ix_tup (pv 0) pe_int (fun _ _ => rfl)) (pe_glob (v := .ref aW) (by rfl) gW rfl) (by rfl))
  (pss_one (ps_ret pe_str))
  pss_nil)
  (pss_one (ps_ret pe_non))))), ?_⟩
    obtain ⟨h, ks⟩ := t
    obtain ⟨a, rs, kv, rfl, sq, r1, r2⟩ := tm_open tm.dp
    refine ⟨_, rfl, _, _, _, _, true, rfl, .ty "tuple", ty_tup sq, kit_ty (by decide +kernel), true, rfl, ?_⟩
    refine iteF ?_
    refine ⟨_, rfl, Nat.zero_le _, fun p np => ?_⟩
    have s1 : Same H (upd H p (.tup [])) := same_upd np
    have sq1 := Same.sqT s1 sq
    refine ⟨_, _, (tm.same s1).dp, .tup (.inl (.inl upd_same)) .nil, tm.good.shaped tm.po.nms tm.low, rfl, _, rfl, ?_⟩
    refine iteF ?_
    have at0 : ∀ {x : V} {l : List V}, atI (x :: l) 0 = some x := atI_nat (j := 0) rfl
    refine ⟨_, rfl, a, _, 0, _, rfl, rfl, sq1, at0, aT, _, rfl, .inr (sT _), rfl, flat_strs _, _, rfl, ?_⟩
    rw [inV_strs]
    cases h with
    | deed w t => exact iteT (q _ s1)
    | seq => exact iteT (q _ s1)
    | alt => exact iteT (q _ s1)
    | run x => exact iteT (q _ s1)
    | call n => exact iteT (q _ s1)
    | wrp => exact iteT (q _ s1)
    | own x =>
      refine iteF ?_
      refine ⟨_, rfl, a, _, 0, _, rfl, rfl, sq1, at0, aW, _, rfl, .inr (sW _), rfl, flat_strs _, _, rfl, ?_⟩
      rw [inV_strs]
      exact iteT (q _ s1)
    | wth n =>
      refine iteF ?_
      refine ⟨_, rfl, a, _, 0, _, rfl, rfl, sq1, at0, aW, _, rfl, .inr (sW _), rfl, flat_strs _, _, rfl, ?_⟩
      rw [inV_strs]
      exact iteT (q _ s1)
end
end FS
set_option Elab.async false
set_option linter.all false
set_option maxRecDepth 100000
set_option maxHeartbeats 4000000
namespace FS
open PySem PySem.Spec PyProof.Rows L2
section
variable {P : Program} {w : World} {K : PySem.W.Frag} {mg : Str → Option Value} {base : Heap}
abbrev Nparts_in : List Str := ["part"]
theorem scparts_in : FnScope Nparts_in ["part"] (defScope sparts_in) := ⟨rfl, rfl, rfl, by decide +kernel, rfl, by decide +kernel, by decide +kernel⟩
theorem ok_parts_in {f : Addr} {fd : FuncData} (F : Fun K "parts_in" "parts_in" sparts_in f fd) (T : Nm K mg) : FnOk P w K mg base CX0 1 f fd ["part"] (spParts K) := by
  have nd := scparts_in.nd
  refine F.ok scparts_in (fun vs H Q E h => ?_) (fun cdv A outer s H vs Q E hr h => ?_)
  · obtain ⟨own, v, t, rfl, _⟩ := h
    rfl
  · obtain ⟨own, v, t, rfl, dp, gd, q⟩ := h
    refine ⟨_, (pss_cons (ps_if (pt_cmpR op_in_seq (pe_ix ix_tup (pv 0) pe_int (fun _ _ => rfl)) (pe_tup (pa_cons pe_str (pa_cons pe_str (pa_cons pe_str pa_nil)))) (by rfl))
  (pss_one (ps_ret (pe_slice sl_tupA (pv 0) (po_some pe_int) po_none)))
  pss_nil)
  (pss_cons (ps_if (pt_cmpR op_in_seq (pe_ix ix_tup (pv 0) pe_int (fun _ _ => rfl)) (pe_tup (pa_cons pe_str (pa_cons pe_str pa_nil))) (by rfl))
  (pss_one (ps_ret (pe_slice sl_tupA (pv 0) (po_some pe_int) po_none)))
  pss_nil)
  (pss_one (ps_ret (pe_tup pa_nil))))), ?_⟩
    obtain ⟨h, ks⟩ := t
    have nl := noL_datas ks
    obtain ⟨a, rs, kv, rfl, sq, r1, r2⟩ := tm_open dp
    refine ⟨_, rfl, a, _, 0, _, rfl, rfl, sq, at0, (by show 3 ≤ sizeLine; decide), fun p np => ?_⟩
    have s1 : Same H (upd H p (.tup ([("seq" : Str), "or", "wrap"].map V.str))) := same_upd np
    refine ⟨p, [("seq" : Str), "or", "wrap"].map V.str, rfl, .inr (.inl (.inl upd_same)), rfl, flat_strs _, _, rfl, ?_⟩
    rw [inV_strs, tag3]
    refine ite2 (fun e3 => ?_) (fun e3 => ?_)
    · cases Hd.rest0 r1 e3
      exact ⟨_, rfl, _, rfl, cut_tup (k := 1) (Same.sqT s1 sq) (by decide) (List.cons_ne_nil _ _) fun H' p' s2 sq2 => q H' p' kv (s1.trans s2) sq2 (DpAll.stay (.of (s1.trans s2)) nl r2)⟩
    · refine ⟨_, rfl, a, _, 0, _, rfl, rfl, Same.sqT s1 sq, at0, (by show 2 ≤ sizeLine; decide), fun p2 np2 => ?_⟩
      have s2 : Same H (upd (upd H p (.tup ([("seq" : Str), "or", "wrap"].map V.str))) p2 (.tup ([("call" : Str), "with"].map V.str))) := s1.trans (same_upd np2)
      refine ⟨p2, [("call" : Str), "with"].map V.str, rfl, .inr (.inl (.inl upd_same)), rfl, flat_strs _, _, rfl, ?_⟩
      rw [inV_strs, tag2]
      refine ite2 (fun e2 => ?_) (fun e2 => ?_)
      · obtain ⟨x, rfl⟩ := Hd.rest1 r1 e2
        exact ⟨_, rfl, _, rfl, cut_tup (k := 2) (Same.sqT s2 sq) (by decide) (List.cons_ne_nil _ _) fun H' p' s3 sq3 => q H' p' kv (s2.trans s3) sq3 (DpAll.stay (.of (s2.trans s3)) nl r2)⟩
      · have e2 : ks = [] := gd.kids0 e3 e2
        subst e2
        exact ⟨Nat.zero_le _, fun p3 np3 => q _ p3 [] (s2.trans (same_upd np3)) (.inl (.inl upd_same)) .nil⟩
end
end FS
set_option Elab.async false
set_option linter.all false
set_option maxRecDepth 100000
set_option maxHeartbeats 4000000
namespace FS
open PySem PySem.Spec PyProof.Rows L2
section
variable {P : Program} {w : World} {K : PySem.W.Frag} {mg : Str → Option Value} {base : Heap}
abbrev Nkinds_in : List Str := ["part"]
theorem sckinds_in : FnScope Nkinds_in ["part"] (defScope skinds_in) := ⟨rfl, rfl, rfl, by decide +kernel, rfl, by decide +kernel, by decide +kernel⟩
theorem ok_kinds_in {f : Addr} {fd : FuncData} (F : Fun K "kinds_in" "kinds_in" skinds_in f fd) (T : Nm K mg) (Cparts_in : Cal P w K mg base 1 "parts_in" ["part"] (spParts K)) : FnOk P w K mg base CX0 3 f fd ["part"] (spKinds K) := by
  have nd := sckinds_in.nd
  refine F.ok sckinds_in (fun vs H Q E h => ?_) (fun cdv A outer s H vs Q E hr h => ?_)
  · obtain ⟨own, v, t, rfl, dp, gd, few, q⟩ := h
    rfl
  · obtain ⟨own, v, t, rfl, dp, gd, few, q⟩ := h
    obtain ⟨aK, gK, sK⟩ := T.g_KINDS
    refine ⟨_, (pss_cons (ps_if (pt_cmpR op_eq (pe_ix ix_tup (pv 0) pe_int (fun _ _ => rfl)) pe_str (nomark _))
  (pss_one (ps_ret (pe_tup (pa_cons (pe_tup (pa_cons pe_str pa_nil)) (pa_cons (pe_tup (pa_cons pe_str pa_nil)) pa_nil)))))
  pss_nil)
  (pss_cons (ps_if (pt_cmpR op_in_seq (pe_ix ix_tup (pv 0) pe_int (fun _ _ => rfl)) (pe_tup (pa_cons pe_str (pa_cons pe_str pa_nil))) (by rfl))
  (pss_one (ps_ret (pe_op op_repA (pe_tup (pa_cons (pe_glob (v := .ref aK) (by rfl) gK rfl) pa_nil)) (pe_callB call_len (by rfl) T.b_len PySem.boot_len (pa_cons (pe_own Cparts_in (hr.mono (by decide)) (by rfl) (pa_cons (pv 0) pa_nil)) pa_nil)))))
  pss_nil)
  (pss_one (ps_ret (pe_op op_repA (pe_tup (pa_cons (pe_tup (pa_cons pe_str pa_nil)) pa_nil)) (pe_callB call_len (by rfl) T.b_len PySem.boot_len (pa_cons (pe_own Cparts_in (hr.mono (by decide)) (by rfl) (pa_cons (pv 0) pa_nil)) pa_nil))))))), ?_⟩

    obtain ⟨h, ks⟩ := t
    obtain ⟨a, rs, kv, rfl, sq, r1, r2⟩ := tm_open dp
    have few2 : ks.length ≤ 100 := few
    have blk : ∀ {H p}, SqT K H p [V.str "block"] → Dp K H (.ref p) (kindsD [false]) := fun s => .tup s (.cons (.str _) .nil)
    have wrp : ∀ {H p}, SqT K H p [V.str "wrap"] → Dp K H (.ref p) (kindsD [true]) := fun s => .tup s (.cons (.str _) .nil)
    have both : ∀ {H}, Dp K H (.ref aK) (kindsD [false, true]) := fun {H} => .tup (sK H) (.cons (.str _) (.cons (.str _) .nil))
    refine ⟨_, rfl, a, _, 0, _, rfl, rfl, sq, at0, rfl, _, rfl, ?_⟩
    rw [tag_dec h (j := 5)]
    refine ite2 (fun e5 => ?_) (fun e5 => ?_)
    · have hw : h = .wrp := by
        have e6 := of_decide_eq_true e5
        cases h <;> first | rfl | (simp [Hd.num] at e6)
      subst hw
      refine ⟨by show 1 ≤ sizeLine; decide, fun p1 n1 => ?_⟩
      refine ⟨by show 1 ≤ sizeLine; decide, fun p2 n2 => ?_⟩
      refine ⟨by show 2 ≤ sizeLine; decide, fun p3 n3 => ?_⟩
      have s1 := same_upd (o := .tup [V.str "wrap"]) n1
      have s2 := same_upd (o := .tup [V.str "block"]) n2
      have s3 := same_upd (o := .tup [V.ref p1, V.ref p2]) n3
      exact q _ p3 _ (s1.trans (s2.trans s3)) (.inl (.inl upd_same)) (.cons (wrp (Same.sqT (s2.trans s3) (.inl (.inl upd_same)))) (.cons (blk (Same.sqT s3 (.inl (.inl upd_same)))) .nil))
    · refine ⟨_, rfl, a, _, 0, _, rfl, rfl, sq, at0, by show 2 ≤ sizeLine; decide, fun p np => ?_⟩
      have s1 : Same H (upd H p (.tup ([("call" : Str), "with"].map V.str))) := same_upd np
      refine ⟨p, [("call" : Str), "with"].map V.str, rfl, .inr (.inl (.inl upd_same)), rfl, flat_strs _, _, rfl, ?_⟩
      rw [inV_strs, tag2]
      have len : ∀ {H xs}, DpAll K H xs (datas ks) → xs.length = ks.length := fun r => by rw [DpAll.len r, datas_len]
      refine ite2 (fun e2 => ?_) (fun e2 => ?_)
      · refine ⟨by show 1 ≤ sizeLine; decide, fun p1 n1 => ?_⟩
        have s2 := s1.trans (same_upd (o := .tup [V.ref aK]) n1)
        refine ⟨_, rfl, own, _, _, rfl, Dp.stay (.of s2) (Tm.noL _) dp, gd, fun H2 p2 kv2 s3 sq2 r3 => ?_⟩
        have hl : ((kv2.length : Nat) : Int) = (ks.length : Int) := by rw [len r3]
        refine ⟨_, _, rfl, .inr ⟨_, sq2, rfl⟩, ?_⟩
        rw [hl]
        refine ⟨p1, ks.length, [V.ref aK], rfl, rfl, Same.sqT s3 (.inl (.inl upd_same)), List.cons_ne_nil _ _, by omega, by show 1 ≤ 1000; decide, fun p4 H4 s4 sq4 => q _ p4 _ (s2.trans (s3.trans s4)) sq4 ?_⟩
        rw [rep_flat]
        cases h <;> first | (show DpAll K H4 _ ((List.replicate ks.length [false, true]).map kindsD); rw [List.map_replicate]; exact DpAll.rep both _) | cases e2
      · refine ⟨by show 1 ≤ sizeLine; decide, fun p0 n0 => ?_⟩
        have s2 := s1.trans (same_upd (o := .tup [V.str "block"]) n0)
        refine ⟨by show 1 ≤ sizeLine; decide, fun p1 n1 => ?_⟩
        have s2b := same_upd (o := .tup [V.ref p0]) n1
        have s3 := s2.trans s2b
        refine ⟨_, rfl, own, _, _, rfl, Dp.stay (.of s3) (Tm.noL _) dp, gd, fun H2 p2 kv2 s4 sq2 r3 => ?_⟩
        have hl : ((kv2.length : Nat) : Int) = (ks.length : Int) := by rw [len r3]
        refine ⟨_, _, rfl, .inr ⟨_, sq2, rfl⟩, ?_⟩
        rw [hl]
        refine ⟨p1, ks.length, [V.ref p0], rfl, rfl, Same.sqT s4 (.inl (.inl upd_same)), List.cons_ne_nil _ _, by omega, by show 1 ≤ 1000; decide, fun p4 H4 s5 sq4 => q _ p4 _ (s3.trans (s4.trans s5)) sq4 ?_⟩
        rw [rep_flat]
        have b := blk (H := H4) (p := p0) (Same.sqT (s2b.trans (s4.trans s5)) (.inl (.inl upd_same)))
        cases h <;> first | exact absurd rfl e2 | exact absurd (decide_eq_true rfl) e5 | (show DpAll K H4 _ ((List.replicate ks.length [false]).map kindsD); rw [List.map_replicate]; exact DpAll.rep b _)
end
end FS
set_option Elab.async false
set_option linter.all false
set_option maxRecDepth 100000
set_option maxHeartbeats 4000000
namespace FS
open PySem PySem.Spec PyProof.Rows L2
section
variable {P : Program} {w : World} {K : PySem.W.Frag} {mg : Str → Option Value} {base : Heap}
abbrev Nall_parts : List Str := ["part", "found", "inner"]
theorem scall_parts : FnScope Nall_parts ["part"] (defScope sall_parts) := ⟨rfl, rfl, rfl, by decide +kernel, rfl, by decide +kernel, by decide +kernel⟩
theorem ok_all_parts {n k : Nat} (hk : 1 ≤ k) {f : Addr} {fd : FuncData} (F : Fun K "all_parts" "all_parts" sall_parts f fd) (T : Nm K mg) (Cparts_in : Cal P w K mg base 1 "parts_in" ["part"] (spParts K)) (Call_parts : Cal P w K mg base k "all_parts" ["part"] (spAll K n)) : FnOk P w K mg base CX0 (k + 1) f fd ["part"] (spAll K (n + 1)) := by
  have nd := scall_parts.nd
  refine F.ok scall_parts (fun vs H Q E h => ?_) (fun cdv A outer s H vs Q E hr h => ?_)
  · obtain ⟨own, v, t, rfl, _⟩ := h
    rfl
  · obtain ⟨own, v, t, rfl, dp, gd, low, few, q⟩ := h
    refine ⟨_, (pss_cons (ps_set (i := 1) nd rfl (Or.inl rfl) (pe_lst (pa_cons (pv 0) pa_nil)))
  (pss_cons (ps_for PassesOwn.never rfl (pi_tup (pe_own Cparts_in (hr.mono hk) (by rfl) (pa_cons (pv 0) pa_nil))) (pg_name (i := 2) nd rfl (Or.inl rfl))
  (pss_one (ps_expr (pe_bm PySem.F.plainAttrs_list PySem.F.slot_list_extend PySem.F.type_list_extend mt_extend (pv 1) (pa_cons (pe_own Call_parts hr (by rfl) (pa_cons (pv 2) pa_nil)) pa_nil)))))
  (pss_one (ps_ret (pv 1))))), ?_⟩
    refine ⟨_, rfl, by show 1 ≤ sizeLine; decide, fun p np => ?_⟩
    have s1 := same_upd (o := .lst [v]) np
    have h1 : upd H p (.lst [v]) p = some (.lst [v]) := upd_same
    generalize upd H p (.lst [v]) = H1 at s1 h1 ⊢
    refine ⟨_, rfl, own, v, t, rfl, Dp.stay (.of s1) t.noL dp, gd, fun H2 p2 kv s2 sq2 r2 => ?_⟩
    have cnt := count_eq t
    refine ⟨p2, rfl, ⟨kv, sq2⟩, for_tup (xs := kv) (fun i σ H' => (∃ y, σ = [some v, some (.ref p), y]) ∧ Same H H' ∧ Stay H2 H' ∧ ∃ xs, H' p = some (.lst xs) ∧ DpAll K H' xs (datas (t :: alls (t.kids.take i)))) ?_ ?_ ?_ ?_⟩
    · exact ⟨⟨_, rfl⟩, s1.trans s2, .refl _, [v], s2 _ _ h1, .cons (Dp.stay (.of (s1.trans s2)) t.noL dp) .nil⟩
    · rintro i σ H' hi ⟨_, _, st, _⟩
      exact st.sqT sq2
    · rintro i x σ H' hx ⟨⟨y, rfl⟩, sm, st, xs, hp, rx⟩
      obtain ⟨u, hu, du⟩ := DpAll.kid r2 hx
      have mu : u ∈ t.kids := List.mem_of_getElem? hu
      have du2 : Dp K H' x u.data := Dp.stay st u.noL du
      have c1 := counts_take t.kids (i + 1)
      rw [take_more hu, counts_app] at c1
      have c2 : counts [u] = u.count := by
        rw [counts_cons]
        rfl
      refine ⟨_, rfl, .inl ⟨rfl, xs, .inl (.inl hp)⟩, _, rfl, own, x, u, rfl, du2, gd.kid mu, by have := deep_kid mu; omega, by omega, fun H3 b zs s3 nb hb rz => ?_⟩
      refine ⟨p, b, xs, zs, rfl, rfl, s3 _ _ hp, hb, ?_, ?_⟩
      · rw [DpAll.len rx, DpAll.len rz, datas_len, datas_len]
        have e1 : (t :: alls (t.kids.take i)).length = counts (t.kids.take i) + 1 := rfl
        have e2 : u.all.length = u.count := rfl
        rw [e1, e2, sizeLine_eq]
        omega
      · have ss := Stay.set (ys := xs ++ zs) (s3 _ _ hp)
        refine ⟨⟨_, rfl⟩, Same.set (sm.trans s3) np, (st.trans (.of s3)).trans ss, xs ++ zs, upd_same, ?_⟩
        rw [take_more hu, alls_app, alls_one, ← List.cons_append, datas_app]
        exact DpAll.app (DpAll.stay ((Stay.of s3).trans ss) (noL_datas _) rx) (DpAll.stay ss (noL_datas _) rz)
    · rintro σ H' ⟨⟨y, rfl⟩, sm, st, xs, hp, rx⟩
      refine ⟨_, rfl, q H' p xs sm np hp ?_⟩
      have l : kv.length = t.kids.length := by rw [DpAll.len r2, datas_len]
      rw [l, List.take_length] at rx
      rw [all_eq]
      exact rx
theorem ok_all_parts0 {f : Addr} {fd : FuncData} (F : Fun K "all_parts" "all_parts" sall_parts f fd) : FnOk P w K mg base CX0 1 f fd ["part"] (spAll K 0) := by
  have no : ∀ {vs H Q E}, spAll K 0 vs H Q E → False := fun {vs H Q E} h => by
    obtain ⟨own, v, t, rfl, dp, gd, low, _⟩ := h
    obtain ⟨hd, ks⟩ := t
    have : deeps ks + 1 ≤ 0 := low
    omega
  exact F.ok scall_parts (fun vs H Q E h => (no h).elim) (fun cdv A outer s H vs Q E hr h => (no h).elim)
theorem no_all_parts {f : Addr} {fd : FuncData} (F : Fun K "all_parts" "all_parts" sall_parts f fd) (T : Nm K mg) (C : Cal P w K mg base 1 "parts_in" ["part"] (spParts K)) (m : mg "all_parts" = some (.ref f)) (kp : PySem.W.keepIn K (.ref f) = true) (b : Binds K fd ["part"] []) :
    ∀ n, Cal P w K mg base (1 + n) "all_parts" ["part"] (spAll K n)
  | 0 => ⟨f, fd, ok_all_parts0 F, m, kp, b⟩
  | n + 1 => ⟨f, fd, ok_all_parts (k := 1 + n) (by omega) F T C (no_all_parts F T C m kp b n), m, kp, b⟩
end
end FS
set_option Elab.async false
set_option linter.all false
set_option maxRecDepth 100000
set_option maxHeartbeats 4000000
namespace FS
open PySem PySem.Spec PyProof.Rows L2
section
variable {P : Program} {w : World} {K : PySem.W.Frag} {mg : Str → Option Value} {base : Heap}
abbrev Nis_name : List Str := ["value", "letter"]
theorem scis_name : FnScope Nis_name ["value"] (defScope sis_name) := ⟨rfl, rfl, rfl, by decide +kernel, rfl, by decide +kernel, by decide +kernel⟩
theorem ok_is_name {f : Addr} {fd : FuncData} (F : Fun K "is_name" "is_name" sis_name f fd) (T : Nm K mg) : FnOk P w K mg base CX0 1 f fd ["value"] (spName) := by
  have nd := scis_name.nd
  refine F.ok scis_name (fun vs H Q E h => ?_) (fun cdv A outer s H vs Q E hr h => ?_)
  · obtain ⟨z, rfl, hl, q⟩ := h
    rfl
  · obtain ⟨z, rfl, hl, q⟩ := h
    obtain ⟨t8, g8⟩ := T.g_MAX_LETTERS
    refine ⟨_, (pss_cons (ps_if (PW.pt (pw_or (pt_not (pt_val (pe_callB call_isi (by rfl) T.b_isinstance (by decide +kernel) (pa_cons (pv 0) (pa_cons (pe_bltn (v := .ty "str") (by rfl) T.b_str (by decide +kernel) rfl) pa_nil))))) (pw_or1 (pt_not (pt_chain op_le op_le pe_int (pe_callB call_len (by rfl) T.b_len PySem.boot_len (pa_cons (pv 0) pa_nil)) (pe_glob (v := .int 8) (by rfl) g8 ⟨_, rfl⟩))))))
  (pss_one (ps_ret pe_bl))
  pss_nil)
  (pss_one (ps_ret (pe_callB (cr_all rfl) (by rfl) T.b_all (by decide +kernel) (pa_cons (pe_lc (own := [("letter", 1)]) (g := gName 1) (tt := tYes) rfl nd (pi_str (pv 0)) (blkOk_by (own := [("letter", 1)]) (N := Nis_name) (sc := defScope sis_name) (by decide +kernel)) (fun _ _ _ _ _ => (pg_name (i := 1) nd rfl (Or.inl rfl))) (fun _ _ _ _ _ => pts_nil) (fun _ _ _ _ _ => (pe_chain op_le_str op_le_str pe_str (pv 1) pe_str))) pa_nil))))), ?_⟩

    refine ⟨_, rfl, _, _, _, _, true, rfl, .ty "str", .base (.str z), kit_ty (show kitB "str" "str" = some true by decide +kernel), true, rfl, ?_⟩
    have hz : z.length ≤ sizeLine := Nat.le_trans hl (by decide)
    have ez : z.length = z.cps.toList.length := by simp [Str.length]
    refine iteF ?_
    refine ⟨_, rfl, _, _, rfl, ⟨hz, rfl⟩, _, _, rfl, rfl, _, rfl, ite2 (fun e1 => ?_) (fun e1 => ?_)⟩
    · refine ⟨_, _, rfl, rfl, _, rfl, ite2 (fun e2 => ?_) (fun e2 => ?_)⟩
      · have n8 : ¬ (z.length : Int) ≤ 8 := by simpa using e2
        have w0 : wordB z = false := by
          show (decide _ && _) = false
          rw [decide_eq_false (fun h => n8 h.2)]
          rfl
        have q1 := q H (.refl H)
        rw [w0] at q1
        exact q1
      · have n8 : (z.length : Int) ≤ 8 := by simpa using e2
        have n1 : 1 ≤ (z.length : Int) := of_decide_eq_true e1
        have w0 : wordB z = z.cps.toList.all sgn := by
          show (decide _ && _) = _
          rw [decide_eq_true ⟨n1, n8⟩]
          rfl
        refine ⟨_, rfl, z, rfl, fun D nD => ?_⟩
        refine lc_it walk_str (fun i H' => Same H H' ∧ H' D = some (.lst (((z.cps.toList.take i).map sgn).map V.bl))) ⟨same_upd nD, upd_same⟩ (fun _ _ _ _ => trivial) (fun i x H1 H2 hi hp hy => ?_) (fun H' hp => ?_)
        · obtain ⟨rfl, c, hc, rfl⟩ := hy
          obtain ⟨sm, eD⟩ := hp
          refine ⟨rfl, ?_⟩
          have fin : ∀ b : Bool, b = sgn c → ∃ acc, H2 D = some (.lst acc) ∧ acc.length < sizeLine ∧ Same H (upd H2 D (.lst (acc ++ [V.bl b]))) ∧ (upd H2 D (.lst (acc ++ [V.bl b]))) D = some (.lst (((z.cps.toList.take (i + 1)).map sgn).map V.bl)) := fun b hb => by
            refine ⟨_, eD, ?_, fun p o e => ?_, ?_⟩
            · rw [List.length_map, List.length_map, List.length_take]
              exact Nat.lt_of_le_of_lt (Nat.min_le_right _ _) (small1000 (by omega))
            · rw [upd_ne (ne_of_none e nD)]
              exact sm _ _ e
            · rw [upd_same, take_one sgn (getE hc), List.map_append, hb]
              rfl
          refine ⟨_, rfl, _, _, rfl, rfl, _, rfl, ite2 (fun e3 => ?_) (fun e3 => ?_)⟩
          · refine ⟨_, _, rfl, rfl, fin _ ?_⟩
            unfold sgn
            rw [e3, Bool.true_and]
          · refine fin _ ?_
            unfold sgn
            rw [Bool.not_eq_true _ |>.mp e3, Bool.false_and]
        · obtain ⟨sm, eD⟩ := hp
          refine ⟨D, _, rfl, .inl (.inl eD), ?_⟩
          have e4 : z.cps.toList.take z.cps.size = z.cps.toList := List.take_of_length_le (by simp)
          rw [e4, all_map, ← w0]
          exact q _ sm
    · have n1 : ¬ 1 ≤ (z.length : Int) := by simpa using e1
      have w0 : wordB z = false := by
        show (decide _ && _) = false
        rw [decide_eq_false (fun h => n1 h.1)]
        rfl
      have q1 := q H (.refl H)
      rw [w0] at q1
      exact ⟨_, rfl, q1⟩
end
end FS
set_option Elab.async false
set_option linter.all false
set_option maxRecDepth 100000
set_option maxHeartbeats 4000000
namespace FS
open PySem PySem.Spec PyProof.Rows L2
section
variable {P : Program} {w : World} {K : PySem.W.Frag} {mg : Str → Option Value} {base : Heap}
abbrev Nis_integer_in : List Str := ["value", "least", "greatest"]
theorem scis_integer_in : FnScope Nis_integer_in ["value", "least", "greatest"] (defScope sis_integer_in) := ⟨rfl, rfl, rfl, by decide +kernel, rfl, by decide +kernel, by decide +kernel⟩
theorem ok_is_integer_in {f : Addr} {fd : FuncData} (F : Fun K "is_integer_in" "is_integer_in" sis_integer_in f fd) (T : Nm K mg) : FnOk P w K mg base CX0 2 f fd ["value", "least", "greatest"] (spIntIn) := by
  have nd := scis_integer_in.nd
  refine F.ok scis_integer_in (fun vs H Q E h => ?_) (fun cdv A outer s H vs Q E hr h => ?_)
  · obtain ⟨i, a, b, rfl, q⟩ := h
    rfl
  · obtain ⟨i, a, b, rfl, q⟩ := h
    skip
    refine ⟨_, (pss_one (ps_ret (pe_and (pe_callB call_isi (by rfl) T.b_isinstance (by decide +kernel) (pa_cons (pv 0) (pa_cons (pe_bltn (v := .ty "int") (by rfl) T.b_int (by decide +kernel) rfl) pa_nil))) (pe_and (pe_not (pe_callB call_isi (by rfl) T.b_isinstance (by decide +kernel) (pa_cons (pv 0) (pa_cons (pe_bltn (v := .ty "bool") (by rfl) T.b_bool (by decide +kernel) rfl) pa_nil)))) (pe_one (pe_chain op_le op_le (pv 1) (pv 0) (pv 2))))))), ?_⟩

    refine ⟨_, rfl, _, _, _, _, true, rfl, .ty "int", .base (.int i), kit_ty (show kitB "int" "int" = some true by decide +kernel), true, rfl, ?_⟩
    refine ⟨_, rfl, _, _, _, _, false, rfl, .ty "bool", .base (.int i), kit_ty (show kitB "int" "bool" = some false by decide +kernel), false, rfl, ?_⟩
    refine ⟨true, rfl, ?_⟩
    refine iteT ?_
    refine ⟨_, rfl, _, rfl, _, _, rfl, rfl, _, rfl, ite2 (fun e1 => ?_) (fun e1 => ?_)⟩
    · refine ⟨_, rfl, _, _, rfl, rfl, ?_⟩
      rw [e1, Bool.true_and] at q
      exact q
    · rw [Bool.not_eq_true _ |>.mp e1, Bool.false_and] at q
      exact q
end
end FS
set_option Elab.async false
set_option linter.all false
set_option maxRecDepth 100000
set_option maxHeartbeats 4000000
namespace FS
open PySem PySem.Spec PyProof.Rows L2
section
variable {P : Program} {w : World} {K : PySem.W.Frag} {mg : Str → Option Value} {base : Heap}
abbrev Nis_deed_table : List Str := ["value", "entry"]
theorem scis_deed_table : FnScope Nis_deed_table ["value"] (defScope sis_deed_table) := ⟨rfl, rfl, rfl, by decide +kernel, rfl, by decide +kernel, by decide +kernel⟩
theorem ok_is_deed_table {f : Addr} {fd : FuncData} (F : Fun K "is_deed_table" "is_deed_table" sis_deed_table f fd) (T : Nm K mg) (Cis_integer_in : Cal P w K mg base 2 "is_integer_in" ["value", "least", "greatest"] spIntIn) : FnOk P w K mg base CX0 3 f fd ["value"] (spTable K) := by
  have nd := scis_deed_table.nd
  refine F.ok scis_deed_table (fun vs H Q E h => ?_) (fun cdv A outer s H vs Q E hr h => ?_)
  · obtain ⟨v, t, rfl, dp, few, q⟩ := h
    rfl
  · obtain ⟨v, t, rfl, dp, few, q⟩ := h
    obtain ⟨t3, g3⟩ := T.g_MAX_MODES
    let eb : Option Nat → Bool := fun e => match e with | none => true | some n => decide (n < 3)
    refine ⟨_, (pss_cons (ps_if (PW.pt (pw_or (pt_not (pt_val (pe_callB call_isi (by rfl) T.b_isinstance (by decide +kernel) (pa_cons (pv 0) (pa_cons (pe_bltn (v := .ty "tuple") (by rfl) T.b_tuple (by decide +kernel) rfl) pa_nil))))) (pw_or1 (pt_not (pt_chain op_le op_le pe_int (pe_callB call_len (by rfl) T.b_len PySem.boot_len (pa_cons (pv 0) pa_nil)) (pe_glob (v := .int 3) (by rfl) g3 ⟨_, rfl⟩))))))
  (pss_one (ps_ret pe_bl))
  pss_nil)
  (pss_one (ps_ret (pe_callB (cr_all rfl) (by rfl) T.b_all (by decide +kernel) (pa_cons (pe_lc (own := [("entry", 1)]) (g := gName 1) (tt := tYes) rfl nd (pi_tup (pv 0)) (blkOk_by (own := [("entry", 1)]) (N := Nis_deed_table) (sc := defScope sis_deed_table) (by decide +kernel)) (fun _ _ _ _ _ => (pg_name (i := 1) nd rfl (Or.inl rfl))) (fun _ _ _ _ _ => pts_nil) (fun _ _ _ _ _ => (pe_or (pe_cmpR op_isN (pv 1) pe_non (nomark _)) (pe_one (pe_own Cis_integer_in (hr.mono (by decide)) (by rfl) (pa_cons (pv 1) (pa_cons pe_int (pa_cons (pe_op op_sub (pe_glob (v := .int 3) (by rfl) g3 ⟨_, rfl⟩) pe_int) pa_nil)))))))) pa_nil))))), ?_⟩

    obtain ⟨a, xs, rfl, sq, r⟩ := Dp.tup_inv dp
    have l : xs.length = t.length := by rw [DpAll.len r, List.length_map]
    have tb : tableB t = (decide (1 ≤ t.length ∧ t.length ≤ 3) && t.all eb) := rfl
    refine ⟨_, rfl, _, _, _, _, true, rfl, .ty "tuple", ty_tup sq, kit_ty (by decide +kernel), true, rfl, ?_⟩
    refine iteF ?_
    refine ⟨_, rfl, _, _, rfl, .inr ⟨_, sq, rfl⟩, _, _, rfl, rfl, _, rfl, ite2 (fun e1 => ?_) (fun e1 => ?_)⟩
    · refine ⟨_, _, rfl, rfl, _, rfl, ite2 (fun e2 => ?_) (fun e2 => ?_)⟩
      · have n8 : ¬ (xs.length : Int) ≤ 3 := by simpa using e2
        have w0 : tableB t = false := by
          rw [tb, decide_eq_false (fun h => n8 (by rw [l]; omega))]
          rfl
        have q1 := q H (.refl H)
        rw [w0] at q1
        exact q1
      · have n8 : (xs.length : Int) ≤ 3 := by simpa using e2
        have n1 : 1 ≤ (xs.length : Int) := of_decide_eq_true e1
        have w0 : tableB t = t.all eb := by
          rw [tb, decide_eq_true ⟨by omega, by omega⟩]
          rfl
        refine ⟨_, rfl, a, rfl, ⟨xs, sq⟩, fun D nD => ?_⟩
        refine lc_tup (xs := xs) (fun i H' => Same H H' ∧ H' D = some (.lst (((t.take i).map eb).map V.bl))) ⟨same_upd nD, upd_same⟩ (fun i H' hi hp => Same.sqT hp.1 sq) (fun i x H2 hx hp => ?_) (fun H' hp => ?_)
        · obtain ⟨sm, eD⟩ := hp
          obtain ⟨d, hd, dx⟩ := DpAll.get r hx
          rw [List.getElem?_map] at hd
          obtain ⟨e, he, rfl⟩ := Option.map_eq_some_iff.mp hd
          refine ⟨rfl, ?_⟩
          have fin : ∀ b : Bool, b = eb e → ∃ acc, H2 D = some (.lst acc) ∧ acc.length < sizeLine ∧ Same H (upd H2 D (.lst (acc ++ [V.bl b]))) ∧ (upd H2 D (.lst (acc ++ [V.bl b]))) D = some (.lst (((t.take (i + 1)).map eb).map V.bl)) := fun b hb => by
            refine ⟨_, eD, ?_, Same.set sm nD, ?_⟩
            · rw [List.length_map, List.length_map, List.length_take]
              exact Nat.lt_of_le_of_lt (Nat.min_le_right _ _) (small1000 (by omega))
            · rw [upd_same, take_one eb he, List.map_append, hb]
              rfl
          cases e with
          | none =>
            cases dx
            refine ⟨_, rfl, ?_⟩
            exact ⟨rfl, _, rfl, iteT (fin true rfl)⟩
          | some n =>
            cases dx
            refine ⟨_, rfl, ?_⟩
            refine ⟨rfl, _, rfl, iteF ?_⟩
            refine ⟨_, rfl, _, _, rfl, rfl, ?_⟩
            refine ⟨(n : Int), 0, 2, rfl, ?_⟩
            refine fin _ ?_
            show (decide ((0:Int) ≤ (n : Int)) && decide ((n : Int) ≤ 2)) = decide (n < 3)
            rw [decide_eq_true (by omega : (0:Int) ≤ (n : Int)), Bool.true_and]
            exact decide_eq_decide.mpr (by omega)
        · obtain ⟨sm, eD⟩ := hp
          refine ⟨D, _, rfl, .inl (.inl eD), ?_⟩
          rw [l, List.take_length]
          have q1 := q H' sm
          have e4 : (t.map eb).all id = t.all eb := by
            rw [List.all_map]
            rfl
          rw [w0] at q1
          rw [e4]
          exact q1
    · have n1 : ¬ 1 ≤ (xs.length : Int) := by simpa using e1
      have w0 : tableB t = false := by
        rw [tb, decide_eq_false (fun h => n1 (by omega))]
        rfl
      have q1 := q H (.refl H)
      rw [w0] at q1
      exact ⟨_, rfl, q1⟩
end
end FS
set_option Elab.async false
set_option linter.all false
set_option maxRecDepth 100000
set_option maxHeartbeats 4000000
namespace FS
open PySem PySem.Spec PyProof.Rows L2
section
variable {P : Program} {w : World} {K : PySem.W.Frag} {mg : Str → Option Value} {base : Heap}
abbrev Nhas_form : List Str := ["part", "parameters", "tag", "many"]
theorem schas_form : FnScope Nhas_form ["part", "parameters"] (defScope shas_form) := ⟨rfl, rfl, rfl, by decide +kernel, rfl, by decide +kernel, by decide +kernel⟩
theorem ok_has_form {f : Addr} {fd : FuncData} (F : Fun K "has_form" "has_form" shas_form f fd) (T : Nm K mg) (Cis_name : Cal P w K mg base 1 "is_name" ["value"] spName) (Cis_deed_table : Cal P w K mg base 3 "is_deed_table" ["value"] (spTable K)) : FnOk P w K mg base CX0 4 f fd ["part", "parameters"] (spForm K) := by
  have nd := schas_form.nd
  refine F.ok schas_form (fun vs H Q E h => ?_) (fun cdv A outer s H vs Q E hr h => ?_)
  · obtain ⟨own, v, pw, t, rfl, tm, dw, q⟩ := h
    rfl
  · obtain ⟨own, v, pw, t, rfl, tm, dw, q⟩ := h
    skip
    refine ⟨_, (pss_cons (ps_par (i := 2) (j := 3) (by rfl) nd rfl rfl (by decide) rfl rfl (pa_cons (pe_ix ix_tup (pv 0) pe_int (fun _ _ => rfl)) (pa_cons (pe_callB call_len (by rfl) T.b_len PySem.boot_len (pa_cons (pv 0) pa_nil)) pa_nil)) (by rfl))
  (pss_cons (ps_if (pt_cmpR op_eq (pv 2) pe_str (nomark _))
  (pss_one (ps_ret (pe_and (pe_cmpR op_eq (pv 3) pe_int (nomark _)) (pe_and (pe_own Cis_name (hr.mono (by decide)) (by rfl) (pa_cons (pe_ix ix_tup (pv 0) pe_int (fun _ _ => rfl)) pa_nil)) (pe_one (pe_own Cis_deed_table (hr.mono (by decide)) (by rfl) (pa_cons (pe_ix ix_tup (pv 0) pe_int (fun _ _ => rfl)) pa_nil)))))))
  pss_nil)
  (pss_cons (ps_if (pt_cmpR op_eq (pv 2) pe_str (nomark _))
  (pss_one (ps_ret (pe_and (pe_cmpR op_eq (pv 3) pe_int (nomark _)) (pe_one (pe_cmpR (op_inT (u65 hr)) (pe_tup (pa_cons (pe_ix ix_tup (pv 0) pe_int (fun _ _ => rfl)) (pa_cons pe_str pa_nil))) (pv 1) (by rfl))))))
  pss_nil)
  (pss_cons (ps_if (pt_cmpR op_eq (pv 2) pe_str (nomark _))
  (pss_one (ps_ret (pe_and (pe_cmpR op_eq (pv 3) pe_int (nomark _)) (pe_one (pe_cmpR (op_inT (u65 hr)) (pe_tup (pa_cons (pe_ix ix_tup (pv 0) pe_int (fun _ _ => rfl)) (pa_cons pe_str pa_nil))) (pv 1) (by rfl))))))
  pss_nil)
  (pss_cons (ps_if (pt_cmpR op_in_seq (pv 2) (pe_tup (pa_cons pe_str (pa_cons pe_str pa_nil))) (by rfl))
  (pss_one (ps_ret (pe_and (pe_cmpR op_gt (pv 3) pe_int (nomark _)) (pe_one (pe_own Cis_name (hr.mono (by decide)) (by rfl) (pa_cons (pe_ix ix_tup (pv 0) pe_int (fun _ _ => rfl)) pa_nil))))))
  pss_nil)
  (pss_cons (ps_if (pt_cmpR op_eq (pv 2) pe_str (nomark _))
  (pss_one (ps_ret (pe_cmpR op_eq (pv 3) pe_int (nomark _))))
  pss_nil)
  (pss_cons (ps_if (pt_cmpR op_eq (pv 2) pe_str (nomark _))
  (pss_one (ps_ret (pe_cmpR op_gt (pv 3) pe_int (nomark _))))
  pss_nil)
  (pss_one (ps_ret (pe_cmpR op_eq (pv 2) pe_str (nomark _))))))))))), ?_⟩

    obtain ⟨h, ks⟩ := t
    obtain ⟨a, rs, kv, rfl, sq, r1, r2⟩ := tm_open tm.dp
    have lk : kv.length = ks.length := by rw [DpAll.len r2, datas_len]
    have gd := tm.good
    have po := tm.po
    refine ⟨_, rfl, a, _, 0, _, rfl, rfl, sq, at0, _, rfl, _, _, rfl, .inr ⟨_, sq, rfl⟩, _, _, rfl, ?_⟩
    have fin : ∀ {H'}, Same H H' → Q (.bl true) H' := fun s => q _ s
    cases h with
    | deed w tb =>
      have e0 := gd.leaf rfl
      subst e0
      cases r2
      cases r1 with
      | cons x1 r => cases r with
        | cons x2 r =>
        cases r
        cases Dp.str_inv x1
        cases gd with
        | mk ok kk kids =>
          have o1 := Bool.and_eq_true_iff.mp ok
          have o2 := Bool.and_eq_true_iff.mp o1.1
          have o3 := Bool.and_eq_true_iff.mp o2.1
          have tbt : tableB tb = true := by
            unfold tableB
            exact Bool.and_eq_true_iff.mpr ⟨o3.2, o2.2⟩
          have tl := of_decide_eq_true o3.2
          refine ⟨_, rfl, rfl, _, rfl, iteT ?_⟩
          refine ⟨_, rfl, rfl, _, rfl, iteT ?_⟩
          refine ⟨_, rfl, a, _, 1, _, rfl, rfl, sq, at1, w, rfl, by have := (word_ok o3.1).2; omega, fun H1 s1 => ?_⟩
          rw [o3.1]
          refine ⟨_, rfl, iteT ?_⟩
          refine ⟨_, rfl, a, _, 2, _, rfl, rfl, Same.sqT s1 sq, at2, _, tb, rfl, Dp.stay (.of s1) (entries_plain tb).1 x2, by omega, fun H2 s2 => ?_⟩
          rw [tbt]
          exact fin (s1.trans s2)
    | run x =>
      have e0 := gd.leaf rfl
      subst e0
      cases r2
      cases r1 with
      | cons x1 r =>
        cases r
        cases Dp.str_inv x1
        cases gd with
        | mk ok kk kids =>
          have o1 := of_decide_eq_true (Bool.and_eq_true_iff.mp ok).1
          refine ⟨_, rfl, rfl, _, rfl, iteF ?_⟩
          refine ⟨_, rfl, rfl, _, rfl, iteT ?_⟩
          refine ⟨_, rfl, rfl, _, rfl, iteT ?_⟩
          refine ⟨_, rfl, a, _, 1, _, rfl, rfl, sq, at1, by show 2 ≤ sizeLine; decide, fun p np => ?_⟩
          have s1 := same_upd (o := .tup [V.str x, V.str "block"]) np
          refine ⟨_, rfl, parD (x, false), own.map parD, .tup (.inl (.inl upd_same)) (.cons (.str _) (.cons (.str _) .nil)), Dp.stay (.of s1) (pars_noL own) dw, par_shaped false (word_ok (po.nms _ o1)).1, pars_shaped po, ?_⟩
          have e := any_par own x false
          rw [decide_eq_true o1] at e
          rw [e]
          exact fin s1
    | own x =>
      have e0 := gd.leaf rfl
      subst e0
      cases r2
      cases r1 with
      | cons x1 r =>
        cases r
        cases Dp.str_inv x1
        cases gd with
        | mk ok kk kids =>
          have o1 := of_decide_eq_true (Bool.and_eq_true_iff.mp ok).1
          refine ⟨_, rfl, rfl, _, rfl, iteF ?_⟩
          refine ⟨_, rfl, rfl, _, rfl, iteF ?_⟩
          refine ⟨_, rfl, rfl, _, rfl, iteT ?_⟩
          refine ⟨_, rfl, rfl, _, rfl, iteT ?_⟩
          refine ⟨_, rfl, a, _, 1, _, rfl, rfl, sq, at1, by show 2 ≤ sizeLine; decide, fun p np => ?_⟩
          have s1 := same_upd (o := .tup [V.str x, V.str "wrap"]) np
          refine ⟨_, rfl, parD (x, true), own.map parD, .tup (.inl (.inl upd_same)) (.cons (.str _) (.cons (.str _) .nil)), Dp.stay (.of s1) (pars_noL own) dw, par_shaped true (word_ok (po.nms _ o1)).1, pars_shaped po, ?_⟩
          have e := any_par own x true
          rw [decide_eq_true o1] at e
          rw [e]
          exact fin s1
    | call n =>
      cases r1 with
      | cons x1 r =>
        cases r
        cases Dp.str_inv x1
        cases gd with
        | mk ok kk kids =>
          have o1 : wordB n = true := ok
          refine ⟨_, rfl, rfl, _, rfl, iteF ?_⟩
          refine ⟨_, rfl, rfl, _, rfl, iteF ?_⟩
          refine ⟨_, rfl, rfl, _, rfl, iteF ?_⟩
          refine ⟨_, rfl, by show 2 ≤ sizeLine; decide, fun p2 np2 => ?_⟩
          have s1 : Same H (upd H p2 (.tup ([("call" : Str), "with"].map V.str))) := same_upd np2
          refine ⟨p2, [("call" : Str), "with"].map V.str, rfl, .inr (.inl (.inl upd_same)), rfl, flat_strs _, _, rfl, ?_⟩
          rw [inV_strs]
          refine iteT ?_
          refine ⟨_, rfl, _, _, rfl, rfl, _, rfl, ite2 (fun _ => ?_) (fun e => absurd (decide_eq_true (by show ((_ + 1 + 1 : Nat) : Int) > 1; omega)) e)⟩
          refine ⟨_, rfl, a, _, 1, _, rfl, rfl, Same.sqT s1 sq, at1, n, rfl, by have := (word_ok o1).2; omega, fun H1 s2 => ?_⟩
          rw [o1]
          exact fin (s1.trans s2)
    | wth n =>
      cases r1 with
      | cons x1 r =>
        cases r
        cases Dp.str_inv x1
        cases gd with
        | mk ok kk kids =>
          have o1 : wordB n = true := ok
          refine ⟨_, rfl, rfl, _, rfl, iteF ?_⟩
          refine ⟨_, rfl, rfl, _, rfl, iteF ?_⟩
          refine ⟨_, rfl, rfl, _, rfl, iteF ?_⟩
          refine ⟨_, rfl, by show 2 ≤ sizeLine; decide, fun p2 np2 => ?_⟩
          have s1 : Same H (upd H p2 (.tup ([("call" : Str), "with"].map V.str))) := same_upd np2
          refine ⟨p2, [("call" : Str), "with"].map V.str, rfl, .inr (.inl (.inl upd_same)), rfl, flat_strs _, _, rfl, ?_⟩
          rw [inV_strs]
          refine iteT ?_
          refine ⟨_, rfl, _, _, rfl, rfl, _, rfl, ite2 (fun _ => ?_) (fun e => absurd (decide_eq_true (by show ((_ + 1 + 1 : Nat) : Int) > 1; omega)) e)⟩
          refine ⟨_, rfl, a, _, 1, _, rfl, rfl, Same.sqT s1 sq, at1, n, rfl, by have := (word_ok o1).2; omega, fun H1 s2 => ?_⟩
          rw [o1]
          exact fin (s1.trans s2)
    | wrp =>
      cases r1
      cases gd with
      | mk ok kk kids =>
        have o1 : ks.length = 2 := of_decide_eq_true ok
        refine ⟨_, rfl, rfl, _, rfl, iteF ?_⟩
        refine ⟨_, rfl, rfl, _, rfl, iteF ?_⟩
        refine ⟨_, rfl, rfl, _, rfl, iteF ?_⟩
        refine ⟨_, rfl, by show 2 ≤ sizeLine; decide, fun p2 np2 => ?_⟩
        have s1 : Same H (upd H p2 (.tup ([("call" : Str), "with"].map V.str))) := same_upd np2
        refine ⟨p2, [("call" : Str), "with"].map V.str, rfl, .inr (.inl (.inl upd_same)), rfl, flat_strs _, _, rfl, ?_⟩
        rw [inV_strs]
        refine iteF ?_
        refine ⟨_, rfl, rfl, _, rfl, iteT ?_⟩
        refine ⟨_, rfl, rfl, ?_⟩
        have e : ((V.str (Hd.wrp.tag) :: ([] ++ kv)).length : Int) = 3 := by
          show ((kv.length + 1 : Nat) : Int) = 3
          omega
        rw [e]
        exact fin s1
    | alt =>
      cases r1
      cases gd with
      | mk ok kk kids =>
        have o1 : 0 < ks.length := of_decide_eq_true ok
        refine ⟨_, rfl, rfl, _, rfl, iteF ?_⟩
        refine ⟨_, rfl, rfl, _, rfl, iteF ?_⟩
        refine ⟨_, rfl, rfl, _, rfl, iteF ?_⟩
        refine ⟨_, rfl, by show 2 ≤ sizeLine; decide, fun p2 np2 => ?_⟩
        have s1 : Same H (upd H p2 (.tup ([("call" : Str), "with"].map V.str))) := same_upd np2
        refine ⟨p2, [("call" : Str), "with"].map V.str, rfl, .inr (.inl (.inl upd_same)), rfl, flat_strs _, _, rfl, ?_⟩
        rw [inV_strs]
        refine iteF ?_
        refine ⟨_, rfl, rfl, _, rfl, iteF ?_⟩
        refine ⟨_, rfl, rfl, _, rfl, iteT ?_⟩
        refine ⟨_, rfl, _, _, rfl, rfl, ?_⟩
        show Q (V.bl (decide ((1:Int) < ((kv.length + 1 : Nat) : Int)))) _
        rw [decide_eq_true (by omega)]
        exact fin s1
    | seq =>
      cases r1
      refine ⟨_, rfl, rfl, _, rfl, iteF ?_⟩
      refine ⟨_, rfl, rfl, _, rfl, iteF ?_⟩
      refine ⟨_, rfl, rfl, _, rfl, iteF ?_⟩
      refine ⟨_, rfl, by show 2 ≤ sizeLine; decide, fun p2 np2 => ?_⟩
      have s1 : Same H (upd H p2 (.tup ([("call" : Str), "with"].map V.str))) := same_upd np2
      refine ⟨p2, [("call" : Str), "with"].map V.str, rfl, .inr (.inl (.inl upd_same)), rfl, flat_strs _, _, rfl, ?_⟩
      rw [inV_strs]
      refine iteF ?_
      refine ⟨_, rfl, rfl, _, rfl, iteF ?_⟩
      refine ⟨_, rfl, rfl, _, rfl, iteF ?_⟩
      exact ⟨_, rfl, rfl, fin s1⟩
end
end FS
set_option Elab.async false
set_option linter.all false
set_option maxRecDepth 100000
set_option maxHeartbeats 4000000
namespace FS
open PySem PySem.Spec PyProof.Rows L2
section
variable {P : Program} {w : World} {K : PySem.W.Frag} {mg : Str → Option Value} {base : Heap}
abbrev Nis_parameter : List Str := ["value"]
theorem scis_parameter : FnScope Nis_parameter ["value"] (defScope sis_parameter) := ⟨rfl, rfl, rfl, by decide +kernel, rfl, by decide +kernel, by decide +kernel⟩
theorem ok_is_parameter {f : Addr} {fd : FuncData} (F : Fun K "is_parameter" "is_parameter" sis_parameter f fd) (T : Nm K mg) (Cis_name : Cal P w K mg base 1 "is_name" ["value"] spName) : FnOk P w K mg base CX0 2 f fd ["value"] (spPar K) := by
  have nd := scis_parameter.nd
  refine F.ok scis_parameter (fun vs H Q E h => ?_) (fun cdv A outer s H vs Q E hr h => ?_)
  · obtain ⟨v, p, rfl, dp, wd, q⟩ := h
    rfl
  · obtain ⟨v, p, rfl, dp, wd, q⟩ := h
    obtain ⟨aK, gK, sK⟩ := T.g_KINDS
    refine ⟨_, (pss_one (ps_ret (pe_and (pe_callB call_isi (by rfl) T.b_isinstance (by decide +kernel) (pa_cons (pv 0) (pa_cons (pe_bltn (v := .ty "tuple") (by rfl) T.b_tuple (by decide +kernel) rfl) pa_nil))) (pe_and (pe_cmpR op_eq (pe_callB call_len (by rfl) T.b_len PySem.boot_len (pa_cons (pv 0) pa_nil)) pe_int (nomark _)) (pe_and (pe_own Cis_name (hr.mono (by decide)) (by rfl) (pa_cons (pe_ix ix_tup (pv 0) pe_int (fun _ _ => rfl)) pa_nil)) (pe_one (pe_cmpR op_in_seq (pe_ix ix_tup (pv 0) pe_int (fun _ _ => rfl)) (pe_glob (v := .ref aK) (by rfl) gK rfl) (by rfl)))))))), ?_⟩

    obtain ⟨x, k⟩ := p
    obtain ⟨a, xs, rfl, sq, r⟩ := Dp.tup_inv (show Dp K H v (.tuple [.str x, .str (kd k)]) from dp)
    cases r with
    | cons x1 r => cases r with
      | cons x2 r =>
      cases r
      cases Dp.str_inv x1
      cases Dp.str_inv x2
      have wd1 : wordB x = true := wd
      refine ⟨_, rfl, _, _, _, _, true, rfl, .ty "tuple", ty_tup sq, kit_ty (by decide +kernel), true, rfl, iteT ?_⟩
      refine ⟨_, rfl, _, _, rfl, .inr ⟨_, sq, rfl⟩, rfl, _, rfl, iteT ?_⟩
      refine ⟨_, rfl, a, _, 0, _, rfl, rfl, sq, at0, x, rfl, by have := (word_ok wd1).2; omega, fun H1 s1 => ?_⟩
      rw [wd1]
      refine ⟨_, rfl, iteT ?_⟩
      refine ⟨_, rfl, a, _, 1, _, rfl, rfl, Same.sqT s1 sq, at1, aK, _, rfl, .inr (sK _), rfl, flat_strs _, ?_⟩
      rw [inV_strs]
      have e : decide (kd k ∈ [("block" : Str), "wrap"]) = true := by cases k <;> decide +kernel
      rw [e]
      exact q _ s1
end
end FS
set_option Elab.async false
set_option linter.all false
set_option maxRecDepth 100000
set_option maxHeartbeats 4000000
namespace FS
open PySem PySem.Spec PyProof.Rows L2
section
variable {P : Program} {w : World} {K : PySem.W.Frag} {mg : Str → Option Value} {base : Heap}
abbrev Nare_parameters : List Str := ["value", "pair"]
theorem scare_parameters : FnScope Nare_parameters ["value"] (defScope sare_parameters) := ⟨rfl, rfl, rfl, by decide +kernel, rfl, by decide +kernel, by decide +kernel⟩
theorem ok_are_parameters {f : Addr} {fd : FuncData} (F : Fun K "are_parameters" "are_parameters" sare_parameters f fd) (T : Nm K mg) (Cis_parameter : Cal P w K mg base 2 "is_parameter" ["value"] (spPar K)) : FnOk P w K mg base CX0 3 f fd ["value"] (spPars K) := by
  have nd := scare_parameters.nd
  refine F.ok scare_parameters (fun vs H Q E h => ?_) (fun cdv A outer s H vs Q E hr h => ?_)
  · obtain ⟨v, own, rfl, dp, po, q⟩ := h
    rfl
  · obtain ⟨v, own, rfl, dp, po, q⟩ := h
    obtain ⟨t3, g3⟩ := T.g_MAX_PARAMETERS
    refine ⟨_, (pss_cons (ps_if (PW.pt (pw_or (pt_not (pt_val (pe_callB call_isi (by rfl) T.b_isinstance (by decide +kernel) (pa_cons (pv 0) (pa_cons (pe_bltn (v := .ty "tuple") (by rfl) T.b_tuple (by decide +kernel) rfl) pa_nil))))) (pw_or1 (pt_cmpR op_gt (pe_callB call_len (by rfl) T.b_len PySem.boot_len (pa_cons (pv 0) pa_nil)) (pe_glob (v := .int 3) (by rfl) g3 ⟨_, rfl⟩) (nomark _)))))
  (pss_one (ps_ret pe_bl))
  pss_nil)
  (pss_cons (ps_if (pt_not (pt_val (pe_callB (cr_all rfl) (by rfl) T.b_all (by decide +kernel) (pa_cons (pe_lc (own := [("pair", 1)]) (g := gName 1) (tt := tYes) rfl nd (pi_tup (pv 0)) (blkOk_by (own := [("pair", 1)]) (N := Nare_parameters) (sc := defScope sare_parameters) (by decide +kernel)) (fun _ _ _ _ _ => (pg_name (i := 1) nd rfl (Or.inl rfl))) (fun _ _ _ _ _ => pts_nil) (fun _ _ _ _ _ => (pe_own Cis_parameter (hr.mono (by decide)) (by rfl) (pa_cons (pv 1) pa_nil)))) pa_nil))))
  (pss_one (ps_ret pe_bl))
  pss_nil)
  (pss_one (ps_ret (pe_cmpR op_eq (pe_callB cr_many (by rfl) T.b_len PySem.boot_len (pa_cons (pe_set (own := [("pair", 1)]) (g := gName 1) (tt := tYes) rfl nd (pi_tup (pv 0)) (blkOk_by (own := [("pair", 1)]) (N := Nare_parameters) (sc := defScope sare_parameters) (by decide +kernel)) (fun _ _ _ _ _ => (pg_name (i := 1) nd rfl (Or.inl rfl))) (fun _ _ _ _ _ => pts_nil) (fun _ _ _ _ _ => (pe_ix (ix_tupK (K := K) rfl) (pv 1) pe_int (fun _ _ => rfl)))) pa_nil)) (pe_callB call_len (by rfl) T.b_len PySem.boot_len (pa_cons (pv 0) pa_nil)) (nomark _)))))), ?_⟩

    obtain ⟨a, xs, rfl, sq, r⟩ := Dp.tup_inv (show Dp K H v (.tuple (own.map parD)) from dp)
    have l : xs.length = own.length := by rw [DpAll.len r, List.length_map]
    have f3 := po.few
    have nl : noLs (own.map parD) = true := pars_noL own
    have ent : ∀ {H' i x}, Same H H' → xs[i]? = some x → ∃ p, own[i]? = some p ∧ Dp K H' x (parD p) := fun {H' i x} sm hx => by
      obtain ⟨d, hd, dx⟩ := DpAll.get (DpAll.stay (.of sm) nl r) hx
      rw [List.getElem?_map] at hd
      obtain ⟨p, hp, rfl⟩ := Option.map_eq_some_iff.mp hd
      exact ⟨p, hp, dx⟩
    refine ⟨_, rfl, _, _, _, _, true, rfl, .ty "tuple", ty_tup sq, kit_ty (by decide +kernel), true, rfl, ?_⟩
    refine iteF ?_
    refine ⟨_, rfl, _, _, rfl, .inr ⟨_, sq, rfl⟩, _, _, rfl, rfl, _, rfl, ite2 (fun e => absurd (of_decide_eq_true e) (by omega)) (fun _ => ?_)⟩
    refine ⟨_, rfl, a, rfl, ⟨xs, sq⟩, fun D nD => ?_⟩
    refine lc_tup (xs := xs) (fun i H' => Same H H' ∧ H' D = some (.lst (List.replicate i (V.bl true)))) ⟨same_upd nD, upd_same⟩ (fun i H' hi hp => Same.sqT hp.1 sq) (fun i x H2 hx hp => ?_) (fun H' hp => ?_)
    · obtain ⟨sm, eD⟩ := hp
      obtain ⟨p, hp, dx⟩ := ent sm hx
      have li := (List.getElem?_eq_some_iff.mp hx).1
      refine ⟨rfl, _, rfl, x, p, rfl, dx, po.nms p (List.mem_of_getElem? hp), fun H3 s3 => ⟨_, s3 _ _ eD, ?_, Same.set (sm.trans s3) nD, ?_⟩⟩
      · rw [List.length_replicate]
        exact small1000 (by omega)
      · rw [upd_same, List.replicate_succ']
    · obtain ⟨sm, eD⟩ := hp
      have ea : ∀ n, (List.replicate n true).all id = true := fun n => List.all_eq_true.mpr fun b hb => (List.eq_of_mem_replicate hb)
      refine ⟨D, List.replicate xs.length true, rfl, .inl (.inl (by rw [List.map_replicate]; exact eD)), ?_⟩
      rw [ea]
      refine ⟨_, rfl, iteF ?_⟩
      refine ⟨_, rfl, a, rfl, ⟨xs, Same.sqT sm sq⟩, fun D2 nD2 => ?_⟩
      have n0 : H D2 = none := Same.free sm nD2
      refine set_tup (xs := xs) (fun i H2 => Same H H2 ∧ H2 D2 = some (SO w D2 ((own.take i).map (·.1)))) ⟨sm.trans (same_upd nD2), upd_same⟩ (fun i H' hi hp => Same.sqT hp.1 sq) (fun i x H2 hx hp => ?_) (fun H2 hp => ?_)
      · obtain ⟨sm2, e2⟩ := hp
        obtain ⟨p, hp, dx⟩ := ent sm2 hx
        have li := (List.getElem?_eq_some_iff.mp hx).1
        obtain ⟨b, ys, rfl, sb, rb⟩ := Dp.tup_inv (show Dp K H2 x (.tuple [.str p.1, .str (kd p.2)]) from dx)
        cases rb with
        | cons y1 rb =>
          cases Dp.str_inv y1
          refine ⟨rfl, _, rfl, b, _, 0, _, rfl, rfl, sb, at0, p.1, _, rfl, e2, ?_, Same.set sm2 n0, ?_⟩
          · rw [List.length_map, List.length_take]
            exact Nat.lt_of_le_of_lt (Nat.succ_le_succ (Nat.min_le_right _ _)) (Nat.lt_of_le_of_lt (Nat.succ_le_succ f3) (by decide))
          · rw [upd_same, take_one (·.1) hp, addS_new (take_new (·.1) po.nd hp)]
            rfl
      · obtain ⟨sm2, e2⟩ := hp
        refine ⟨D2, _, rfl, e2, _, rfl, _, _, rfl, .inr ⟨_, Same.sqT sm2 sq, rfl⟩, rfl, ?_⟩
        have e : (((own.take xs.length).map (·.1)).length : Int) = (xs.length : Int) := by
          rw [l, List.take_length, List.length_map]
        have e3 : decide (V.int (((own.take xs.length).map (·.1)).length : Int) = V.int (xs.length : Int)) = true := by
          rw [e]
          exact decide_eq_true rfl
        rw [e3]
        exact q _ sm2
end
end FS
set_option Elab.async false
set_option linter.all false
set_option maxRecDepth 100000
set_option maxHeartbeats 4000000
namespace FS
open PySem PySem.Spec PyProof.Rows L2
section
variable {P : Program} {w : World} {K : PySem.W.Frag} {mg : Str → Option Value} {base : Heap}
abbrev Nis_term : List Str := ["value", "parameters", "pending", "many", "part", "kinds", "depth", "inner", "allowed"]
theorem scis_term : FnScope Nis_term ["value", "parameters"] (defScope sis_term) := ⟨rfl, rfl, rfl, by decide +kernel, rfl, by decide +kernel, by decide +kernel⟩
theorem ok_is_term {f : Addr} {fd : FuncData} (F : Fun K "is_term" "is_term" sis_term f fd) (T : Nm K mg) (Care_parameters : Cal P w K mg base 3 "are_parameters" ["value"] (spPars K)) (Ckind_of : Cal P w K mg base 1 "kind_of" ["value"] (spKind K)) (Chas_form : Cal P w K mg base 4 "has_form" ["part", "parameters"] (spForm K)) (Cparts_in : Cal P w K mg base 1 "parts_in" ["part"] (spParts K)) (Ckinds_in : Cal P w K mg base 3 "kinds_in_terms" ["part"] (spKinds K)) : FnOk P w K mg base CX0 5 f fd ["value", "parameters"] (spTerm K) := by
  have nd := scis_term.nd
  refine F.ok scis_term (fun vs H Q E h => ?_) (fun cdv A outer s H vs Q E hr h => ?_)
  · obtain ⟨own, v, pw, t, rfl, tm, dw, nw, few, low, q⟩ := h
    rfl
  · obtain ⟨own, v, pw, t, rfl, tm, dw, nw, few, low, q⟩ := h
    obtain ⟨t40, g40⟩ := T.g_MAX_TERMS
    obtain ⟨t6, g6⟩ := T.g_MAX_DEPTH
    refine ⟨_, (pss_cons (ps_if (pt_not (pt_val (pe_own Care_parameters (hr.mono (by decide)) (by rfl) (pa_cons (pv 1) pa_nil))))
  (pss_one ps_never)
  pss_nil)
  (pss_cons (ps_set (i := 2) nd rfl (Or.inl rfl) (pe_lst (pa_cons (pe_tup (pa_cons (pv 0) (pa_cons (pe_tup (pa_cons pe_str pa_nil)) (pa_cons pe_int pa_nil)))) pa_nil)))
  (pss_cons (ps_set (i := 3) nd rfl (Or.inl rfl) pe_int)
  (pss_cons (ps_while PassesOwn.never (pt_truth (pv 2) (fun _ => rfl))
  (pss_cons (ps_asg (pe_bm0 PySem.F.plainAttrs_list PySem.F.slot_list_pop PySem.F.type_list_pop mt_pop (pv 2)) (pg_tup rfl (pgs_cons (pg_name (i := 4) nd rfl (Or.inl rfl)) (pgs_cons (pg_name (i := 5) nd rfl (Or.inl rfl)) (pgs_cons (pg_name (i := 6) nd rfl (Or.inl rfl)) pgs_nil)))))
  (pss_cons (ps_aug (i := 3) nd rfl (.inl rfl) pe_int ip_add)
  (pss_cons (ps_if (PW.pt (pw_or (pt_cmpR op_gt (pv 3) (pe_glob (v := .int 40) (by rfl) g40 ⟨_, rfl⟩) (nomark _)) (pw_or1 (pt_cmpR op_gt (pv 6) (pe_glob (v := .int 6) (by rfl) g6 ⟨_, rfl⟩) (nomark _)))))
  (pss_one (ps_ret pe_bl))
  pss_nil)
  (pss_cons (ps_if (PW.pt (pw_or (pt_cmpR op_notIn_seq (pe_own Ckind_of (hr.mono (by decide)) (by rfl) (pa_cons (pv 4) pa_nil)) (pv 5) (by rfl)) (pw_or1 (pt_not (pt_val (pe_own Chas_form (hr.mono (by decide)) (by rfl) (pa_cons (pv 4) (pa_cons (pv 1) pa_nil))))))))
  (pss_one (ps_ret pe_bl))
  pss_nil)
  (pss_one (ps_for PassesOwn.never rfl (RZ.pi_zipA (by rfl) T.b_zip (pa_cons (pe_own Cparts_in (hr.mono (by decide)) (by rfl) (pa_cons (pv 4) pa_nil)) (pa_cons (pe_own Ckinds_in (hr.mono (by decide)) (by rfl) (pa_cons (pv 4) pa_nil)) pa_nil))) (pg_tup rfl (pgs_cons (pg_name (i := 7) nd rfl (Or.inl rfl)) (pgs_cons (pg_name (i := 8) nd rfl (Or.inl rfl)) pgs_nil)))
  (pss_one (ps_expr (pe_bm PySem.F.plainAttrs_list PySem.F.slot_list_append PySem.F.type_list_append mt_append (pv 2) (pa_cons (pe_tup (pa_cons (pv 7) (pa_cons (pv 8) (pa_cons (pe_op op_add (pv 6) pe_int) pa_nil)))) pa_nil)))))))))))
  (pss_one (ps_ret pe_bl)))))), ?_⟩

    have po := tm.po
    refine ⟨_, rfl, pw, own, rfl, dw, po, fun H1 s1 => ?_⟩
    refine ⟨_, rfl, iteF ?_⟩
    refine ⟨_, rfl, by show 1 ≤ sizeLine; decide, fun p1 n1 => ?_⟩
    have s2 := s1.trans (same_upd (o := .tup [V.str "block"]) n1)
    have e1 : upd H1 p1 (.tup [V.str "block"]) p1 = some (.tup [V.str "block"]) := upd_same
    generalize upd H1 p1 (.tup [V.str "block"]) = H2 at s2 e1 ⊢
    refine ⟨by show 3 ≤ sizeLine; decide, fun p2 n2 => ?_⟩
    have s3a := same_upd (o := .tup [v, V.ref p1, V.int 1]) n2
    have e2 : upd H2 p2 (.tup [v, V.ref p1, V.int 1]) p2 = some (.tup [v, V.ref p1, V.int 1]) := upd_same
    generalize upd H2 p2 (.tup [v, V.ref p1, V.int 1]) = H3 at s3a e2 ⊢
    refine ⟨by show 1 ≤ sizeLine; decide, fun pl n3 => ?_⟩
    have s4a := same_upd (o := .lst [V.ref p2]) n3
    have e3 : upd H3 pl (.lst [V.ref p2]) pl = some (.lst [V.ref p2]) := upd_same
    have s3 := s2.trans s3a
    have npl : H pl = none := Same.free s3 n3
    generalize upd H3 pl (.lst [V.ref p2]) = H4 at s4a e3 ⊢
    have s4 := s3.trans s4a
    have sgl : ∀ {x : V} {H' : Hp}, Same H4 H' → x = V.ref p2 → Dp K H' x (Tr.data ⟨t, [false], 1⟩) := fun {x H'} s e => by
      subst e
      exact .tup (.inl (.inl (s _ _ (s4a _ _ e2)))) (.cons (Dp.stay (.of (s4.trans s)) t.noL tm.dp) (.cons (.tup (.inl (.inl (s _ _ (s4a _ _ (s3a _ _ e1))))) (.cons (.str _) .nil)) (.cons (.int _) .nil)))
    refine ⟨fun m σ H' => ∃ (many : Nat) (y4 y5 y6 y7 y8 : Option V), σ = [some v, some pw, some (.ref pl), some (.int (many : Int)), y4, y5, y6, y7, y8] ∧ Same H H' ∧ ∃ (xs : List V) (trs : List Tr), H' pl = some (.lst xs) ∧ DpAll K H' xs (trs.map Tr.data) ∧ (∀ r ∈ trs, TrOk own r) ∧ many + counts (trs.map Tr.t) = t.count ∧ m = counts (trs.map Tr.t), ⟨_, 0, _, _, _, _, _, rfl, s4, [V.ref p2], [⟨t, [false], 1⟩], e3, .cons (sgl (.refl _) rfl) .nil, ?_, ?_, rfl⟩, fun m σ H5 hw => ?_⟩
    · intro r hr
      cases List.mem_singleton.mp hr
      exact ⟨tm.good, by rw [nw]; exact List.mem_cons_self, by show 1 + t.deep ≤ 7; omega⟩
    · show 0 + counts [t] = t.count
      rw [counts_cons]
      show 0 + (t.count + 0) = _
      omega
    · obtain ⟨many, y4, y5, y6, y7, y8, rfl, sm, xs, trs, hp, rx, ok, cnt, rfl⟩ := hw
      rcases List.eq_nil_or_concat trs with rfl | ⟨ini, r, rfl⟩
      · cases rx
        refine ⟨_, rfl, false, .inl ⟨[], .inl (.inl hp), rfl⟩, iteF ?_⟩
        exact q _ sm
      · rw [List.concat_eq_append] at *
        rw [List.map_append] at rx cnt
        have rx1 : DpAll K H5 xs (ini.map Tr.data ++ [r.data]) := rx
        obtain ⟨us, ws, rfl, ru, rw1⟩ := DpAll.split rx1
        cases rw1 with
        | @cons x _ _ _ hx r0 =>
        cases r0
        have okr := ok r (List.mem_append_right _ List.mem_cons_self)
        have oki : ∀ r ∈ ini, TrOk own r := fun r h => ok r (List.mem_append_left _ h)
        clear ok rx rx1
        have cr := count_eq r.t
        have cnt2 : many + (counts (ini.map Tr.t) + r.t.count) = t.count := by
          have h := counts_app (ini.map Tr.t) [r.t]
          have h2 : counts [r.t] = r.t.count := by
            rw [counts_cons]
            rfl
          rw [h2] at h
          rw [← h]
          exact cnt
        have em : counts ((ini ++ [r]).map Tr.t) = counts (ini.map Tr.t) + r.t.count := by
          rw [List.map_append, counts_app]
          show _ + counts [r.t] = _
          rw [counts_cons]
          rfl
        rw [em]
        clear cnt
        obtain ⟨a, ys, rfl, sq, ry⟩ := Dp.tup_inv (show Dp K H5 x (.tuple [r.t.data, kindsD r.k, .int (r.d : Int)]) from hx)
        cases ry with
        | @cons pv _ _ _ dpart ry => cases ry with
          | @cons kv _ _ _ dkind ry => cases ry with
            | cons ddep ry =>
            cases ry
            cases ddep
            refine ⟨_, rfl, true, .inl ⟨_, .inl (.inl hp), by cases us <;> rfl⟩, iteT ?_⟩
            refine ⟨fun σ2 H2 => ∃ (y4 y5 y6 y7 y8 : Option V), σ2 = [some v, some pw, some (.ref pl), some (.int ((many + 1 : Nat) : Int)), y4, y5, y6, y7, y8] ∧ Same H H2 ∧ ∃ (xs : List V) (trs : List Tr), H2 pl = some (.lst xs) ∧ DpAll K H2 xs (trs.map Tr.data) ∧ (∀ r ∈ trs, TrOk own r) ∧ many + 1 + counts (trs.map Tr.t) = t.count, fun σ2 H2 h => ?_, ?_⟩
            · obtain ⟨y4, y5, y6, y7, y8, rfl, sm2, xs2, trs2, hp2, rx2, ok2, c2⟩ := h
              exact ⟨counts (trs2.map Tr.t), by omega, many + 1, y4, y5, y6, y7, y8, rfl, sm2, xs2, trs2, hp2, rx2, ok2, c2, rfl⟩
            · refine ⟨_, rfl, .inl ⟨rfl, _, .inl (.inl hp)⟩, pl, us ++ [.ref a], .ref a, rfl, rfl, hp, by simp, ?_⟩
              have ed : (us ++ [V.ref a]).dropLast = us := by simp
              rw [ed]
              have st6 := Stay.set (ys := us) hp
              have sm6 := Same.set (o := .lst us) sm npl
              have hp6 : upd H5 pl (.lst us) pl = some (.lst us) := upd_same
              have sq6 := st6.sqT sq
              have dp6 := Dp.stay st6 r.t.noL dpart
              have dk6 := Dp.stay st6 (kinds_noL r.k) dkind
              have ru6 := DpAll.stay st6 (trs_noL ini) ru
              clear hp sq dpart dkind ru hx
              generalize upd H5 pl (.lst us) = H6 at st6 sm6 hp6 sq6 dp6 dk6 ru6 ⊢
              refine ⟨a, _, rfl, sq6, rfl, _, _, rfl, _, _, rfl, _, _, rfl, rfl, ?_⟩
              refine ⟨_, rfl, _, _, rfl, rfl, ?_⟩
              have e40 : ¬ ((40 : Int) < (many : Int) + 1) := by omega
              have e6 : ¬ ((6 : Int) < (r.d : Int)) := by
                have := okr.deep
                have : 0 < r.t.deep := by
                  obtain ⟨⟨h, ks⟩, _, _⟩ := r
                  exact Nat.succ_pos _
                omega
              refine ⟨_, rfl, _, _, rfl, rfl, _, rfl, ite2 (fun e => absurd (of_decide_eq_true e) e40) (fun _ => ?_)⟩
              refine ⟨_, rfl, _, _, rfl, rfl, _, rfl, ite2 (fun e => absurd (of_decide_eq_true e) e6) (fun _ => ?_)⟩
              have low6 : r.t.deep ≤ 60 := by
                have := okr.deep
                omega
              refine ⟨_, rfl, own, pv, r.t, rfl, ⟨dp6, okr.good, po, low6⟩, fun H7 s7 => ?_⟩
              obtain ⟨ak, rfl, sk⟩ := kinds_open (Dp.stay (.of s7) (kinds_noL r.k) dk6)
              refine ⟨_, rfl, ak, _, rfl, .inr sk, rfl, flat_strs _, _, rfl, ?_⟩
              rw [inV_strs]
              have ein : decide (kd r.t.isW ∈ r.k.map kd) = true := decide_eq_true (List.mem_map_of_mem okr.kind)
              rw [ein]
              refine iteF ?_
              have g7 := okr.good
              have dp7 := Dp.stay (.of s7) r.t.noL dp6
              refine ⟨_, rfl, _, rfl, own, pv, pw, r.t, rfl, ⟨dp7, g7, po, low6⟩, Dp.stay (.of (sm6.trans s7)) (pars_noL own) dw, fun H8 s8 => ?_⟩
              refine ⟨_, rfl, iteF ?_⟩
              refine ⟨_, rfl, own, pv, r.t, rfl, Dp.stay (.of s8) r.t.noL dp7, g7, fun H9 b1 kv1 s9 sq9 r9 => ?_⟩
              have lk : kv1.length = r.t.kids.length := by rw [DpAll.len r9, datas_len]
              have kf : r.t.kids.length ≤ counts r.t.kids := by
                exact len_counts _
              refine ⟨_, rfl, own, pv, r.t, rfl, Dp.stay (.of (s8.trans s9)) r.t.noL dp7, g7, by omega, fun H10 b2 kv2 s10 sq10 r10 => ?_⟩
              have la : (r.t.hd.allow r.t.kids.length).length = r.t.kids.length := allow_len _ _ fun e => by
                obtain ⟨⟨h, ks⟩, _, _⟩ := r
                cases (show h = .wrp from e)
                exact Good.wrp2 g7
              have lk2 : kv2.length = r.t.kids.length := by rw [DpAll.len r10, List.length_map, la]
              have s67 := s7.trans (s8.trans (s9.trans s10))
              have dall : noLs ((r.t.hd.allow r.t.kids.length).map kindsD) = true := by
                generalize r.t.hd.allow r.t.kids.length = l
                induction l with
                | nil => rfl
                | cons x l ih =>
                  show (noL (kindsD x) && noLs (l.map kindsD)) = true
                  rw [kinds_noL, ih]
                  rfl
              refine ⟨b1, b2, kv1, kv2, rfl, .inr ⟨Same.sqT s10 sq9, sq10, ?_⟩⟩
              refine RZ.for_zipT (xs := kv1) (ys := kv2) (by omega) (fun i σ2 H2 => ∃ (y7 y8 : Option V), σ2 = [some v, some pw, some (.ref pl), some (.int ((many + 1 : Nat) : Int)), some pv, some (.ref ak), some (.int (r.d : Int)), y7, y8] ∧ Same H H2 ∧ Stay H10 H2 ∧ ∃ (xs : List V) (new : List Tr), H2 pl = some (.lst xs) ∧ DpAll K H2 xs ((ini ++ new).map Tr.data) ∧ (∀ r ∈ new, TrOk own r) ∧ new.map Tr.t = r.t.kids.take i) ?_ ?_ ?_ ?_
              · exact ⟨_, _, rfl, sm6.trans s67, .refl _, us, [], s67 _ _ hp6, by rw [List.append_nil]; exact DpAll.stay (.of s67) (trs_noL ini) ru6, (fun r h => nomatch h), rfl⟩
              · rintro i σ2 H2 ⟨_, _, _, _, st, _⟩
                exact ⟨st.sqT (Same.sqT s10 sq9), st.sqT sq10⟩
              · rintro i x y T σ2 H2 hx hy ⟨y7, y8, rfl, sm2, st2, xs, new, hp2, rx2, okn, en⟩ nT
                obtain ⟨u, hu, du⟩ := DpAll.kid (DpAll.stay (.of s10) (noL_datas _) r9) hx
                obtain ⟨d, hd, dy⟩ := DpAll.get r10 hy
                rw [List.getElem?_map] at hd
                obtain ⟨al, ha, rfl⟩ := Option.map_eq_some_iff.mp hd
                have dx2 := Dp.stay st2 u.noL du
                have dy2 := Dp.stay st2 (kinds_noL al) dy
                have sT := same_upd (o := .tup [x, y]) nT
                have eT : upd H2 T (.tup [x, y]) T = some (.tup [x, y]) := upd_same
                have mu : u ∈ r.t.kids := List.mem_of_getElem? hu
                generalize upd H2 T (.tup [x, y]) = H3 at sT eT ⊢
                refine ⟨T, [x, y], rfl, .inl (.inl eT), rfl, _, _, rfl, _, _, rfl, rfl, ?_⟩
                refine ⟨_, rfl, .inl ⟨rfl, _, .inl (.inl (sT _ _ hp2))⟩, _, rfl, _, rfl, _, rfl, _, _, rfl, rfl, by show 3 ≤ sizeLine; decide, fun p3 n3 => ?_⟩
                have s3' := same_upd (o := .tup [x, y, .int ((r.d : Int) + 1)]) n3
                have e3' : upd H3 p3 (.tup [x, y, .int ((r.d : Int) + 1)]) p3 = some (.tup [x, y, .int ((r.d : Int) + 1)]) := upd_same
                have s4' := sT.trans s3'
                generalize upd H3 p3 (.tup [x, y, .int ((r.d : Int) + 1)]) = H4' at s3' e3' s4' ⊢
                have hp4 := s4' _ _ hp2
                refine ⟨pl, xs, .ref p3, rfl, rfl, hp4, ?_, ?_⟩
                · rw [DpAll.len rx2, List.length_map]
                  have e1 : (ini ++ new).length = ini.length + new.length := List.length_append
                  have e2 : new.length ≤ r.t.kids.length := by
                    have h := congrArg List.length en
                    rw [List.length_map, List.length_take] at h
                    omega
                  have e3 : ini.length ≤ counts (ini.map Tr.t) := by
                    exact trs_counts ini
                  exact small1000 (by omega)
                · have st5 := Stay.set (ys := xs ++ [V.ref p3]) hp4
                  have stA := (Stay.of s4').trans st5
                  refine ⟨_, _, rfl, Same.set (sm2.trans s4') npl, st2.trans stA, xs ++ [.ref p3], new ++ [⟨u, al, r.d + 1⟩], upd_same, ?_, ?_, ?_⟩
                  · rw [← List.append_assoc, List.map_append]
                    refine DpAll.app (DpAll.stay stA (trs_noL _) rx2) (.cons ?_ .nil)
                    exact .tup (st5.sqT (.inl (.inl e3'))) (.cons (Dp.stay stA u.noL dx2) (.cons (Dp.stay stA (kinds_noL al) dy2) (.cons (.int _) .nil)))
                  · intro z hz
                    rcases List.mem_append.mp hz with h | h
                    · exact okn z h
                    · cases List.mem_singleton.mp h
                      obtain ⟨⟨h, ks⟩, _, _⟩ := r
                      exact ⟨g7.kid mu, kid_allow g7 hu ha, by
                        have h1 := deep_kid mu
                        have h2 := okr.deep
                        show _ + 1 + u.deep ≤ 7
                        omega⟩
                  · rw [List.map_append, en, take_more hu]
                    rfl
              · rintro σ2 H2 ⟨y7, y8, rfl, sm2, st2, xs, new, hp2, rx2, okn, en⟩
                refine ⟨_, _, _, _, _, rfl, sm2, xs, ini ++ new, hp2, rx2, fun z hz => ?_, ?_⟩
                · rcases List.mem_append.mp hz with h | h
                  · exact oki z h
                  · exact okn z h
                · rw [List.map_append, counts_app, en, lk, List.take_length]
                  omega
end
end FS
set_option Elab.async false
set_option linter.all false
set_option maxRecDepth 100000
set_option maxHeartbeats 4000000
namespace FS
open PySem PySem.Spec PyProof.Rows L2
section
variable {P : Program} {w : World} {K : PySem.W.Frag} {mg : Str → Option Value} {base : Heap}
abbrev NProcedure__init__ : List Str := ["self", "name", "parameters", "body", "_", "kind", "part"]
theorem scProcedure__init__ : FnScope NProcedure__init__ ["self", "name", "parameters", "body"] (defScope sProcedure__init__) := ⟨rfl, rfl, rfl, by decide +kernel, rfl, by decide +kernel, by decide +kernel⟩
theorem ok_Procedure__init__ {f : Addr} {fd : FuncData} (F : Fun K "__init__" "Procedure.__init__" sProcedure__init__ f fd) (T : Nm K mg) {C : Addr} (PC : PrC K mg C) (Cis_name : Cal P w K mg base 1 "is_name" ["value"] spName) (Cis_term : Cal P w K mg base 5 "is_term" ["value", "parameters"] (spTerm K)) (Call_parts : Cal P w K mg base 8 "all_parts" ["part"] (spAll K 7)) : FnOk P w K mg base CX0 9 f fd ["self", "name", "parameters", "body"] (spInit K C) := by
  have nd := scProcedure__init__.nd
  refine F.ok scProcedure__init__ (fun vs H Q E h => ?_) (fun cdv A outer s H vs Q E hr h => ?_)
  · obtain ⟨p, dx, nm, pv', bv, own, t, rfl, hp, wd, dw, db, po, gd, nw, few, low, q⟩ := h
    rfl
  · obtain ⟨p, dx, nm, pv', bv, own, t, rfl, hp, wd, dw, db, po, gd, nw, few, low, q⟩ := h
    skip
    refine ⟨_, (pss_cons (ps_if (pt_not (pt_val (pe_own Cis_name (hr.mono (by decide)) (by rfl) (pa_cons (pv 1) pa_nil))))
  (pss_one ps_never)
  pss_nil)
  (pss_cons (ps_if (pt_not (pt_val (pe_own Cis_term (hr.mono (by decide)) (by rfl) (pa_cons (pv 3) (pa_cons (pv 2) pa_nil)))))
  (pss_one ps_never)
  pss_nil)
  (pss_cons (ps_fld (pv 0) (pv 1) rfl)
  (pss_cons (ps_fld (pv 0) (pv 2) rfl)
  (pss_cons (ps_fld (pv 0) (pv 3) rfl)
  (pss_cons (ps_fld (pv 0) (pe_own Call_parts (hr.mono (by decide)) (by rfl) (pa_cons (pv 3) pa_nil)) rfl)
  (pss_cons (ps_fld (pv 0) (pe_callTy call_tuple_of (by rfl) T.b_tuple (by decide +kernel) (pa_cons (pe_lc (own := [("_", 4), ("kind", 5)]) (g := gTup K 2 (gCons (gName 4) (gCons (gName 5) gNil))) (tt := tYes) rfl nd (pi_tup (pv 2)) (blkOk_by (own := [("_", 4), ("kind", 5)]) (N := NProcedure__init__) (sc := defScope sProcedure__init__) (by decide +kernel)) (fun _ _ _ _ _ => (pg_tup rfl (pgs_cons (pg_name (i := 4) nd rfl (Or.inl rfl)) (pgs_cons (pg_name (i := 5) nd rfl (Or.inl rfl)) pgs_nil)))) (fun _ _ _ _ _ => pts_nil) (fun _ _ _ _ _ => (pv 5))) pa_nil)) rfl)
  (pss_cons (ps_fld (pv 0) (pe_callTy call_tuple_of (by rfl) T.b_tuple (by decide +kernel) (pa_cons (pe_callB (cr_ranked rfl) (by rfl) T.b_sorted (by decide +kernel) (pa_cons (pe_set (own := [("part", 6)]) (g := gName 6) rfl nd (pi_list (pe_fld (pv 0) rfl)) (blkOk_by (own := [("part", 6)]) (N := NProcedure__init__) (sc := defScope sProcedure__init__) (by decide +kernel)) (fun _ _ _ _ _ => (pg_name (i := 6) nd rfl (Or.inl rfl))) (fun _ _ _ _ _ => pts_one (pt_cmpR op_eq (pe_ix (ix_tupK (K := K) rfl) (pv 6) pe_int (fun _ _ => rfl)) pe_str (nomark _))) (fun _ _ _ _ _ => (pe_ix (ix_tupK (K := K) rfl) (pv 6) pe_int (fun _ _ => rfl)))) pa_nil)) pa_nil)) rfl)
  (pss_one (ps_fld (pv 0) (pe_callTy call_tuple_of (by rfl) T.b_tuple (by decide +kernel) (pa_cons (pe_callB (cr_ranked rfl) (by rfl) T.b_sorted (by decide +kernel) (pa_cons (pe_set (own := [("part", 6)]) (g := gName 6) rfl nd (pi_list (pe_fld (pv 0) rfl)) (blkOk_by (own := [("part", 6)]) (N := NProcedure__init__) (sc := defScope sProcedure__init__) (by decide +kernel)) (fun _ _ _ _ _ => (pg_name (i := 6) nd rfl (Or.inl rfl))) (fun _ _ _ _ _ => pts_one (pt_cmpR (op_inK (K := K) rfl) (pe_ix (ix_tupK (K := K) rfl) (pv 6) pe_int (fun _ _ => rfl)) (pe_tup (pa_cons pe_str (pa_cons pe_str pa_nil))) (by rfl))) (fun _ _ _ _ _ => (pe_ix (ix_tupK (K := K) rfl) (pv 6) pe_int (fun _ _ => rfl)))) pa_nil)) pa_nil)) rfl)))))))))), ?_⟩

    refine ⟨_, rfl, nm, rfl, by have := (word_ok wd).2; omega, fun H1 s1 => ?_⟩
    rw [wd]
    refine ⟨_, rfl, iteF ?_⟩
    refine ⟨_, rfl, _, rfl, own, bv, pv', t, rfl, ⟨Dp.tk (.of s1) t.noL db, gd, po, by omega⟩, Dp.tk (.of s1) (pars_noL own) dw, nw, few, low, fun H2 s2 => ?_⟩
    refine ⟨_, rfl, iteF ?_⟩
    have s12 := s1.trans s2
    have hp2 := s12 _ _ hp
    have db2 := Dp.tk (.of s12) t.noL db
    have dw2 := Dp.tk (.of s12) (pars_noL own) dw
    have k2 : Kp p H H2 := .of s12
    clear s1 s2 s12 hp db dw
    have fin : ∀ {H' H'' : Hp} {fs : List (Str × V)} {y : V} {g : Str}, Kp p H H' → H' p = some (.ins C dx fs) → upd H' p (.ins C dx (putF g y fs)) = H'' → Kp p H H'' ∧ H'' p = some (.ins C dx (putF g y fs)) ∧ TK H' H'' ∧ Kp p H' H'' := fun k e h => by
      subst h
      exact ⟨k.trans .set, upd_same, TK.set e rfl, .set⟩
    refine ⟨_, rfl, _, rfl, p, C, dx, [], rfl, hp2, PC.cl, PC.a1, by show 0 < 1000; decide, ?_⟩
    generalize hh : upd H2 p _ = H3
    obtain ⟨k3, hp3, t3, -⟩ := fin k2 hp2 hh
    have db3 := Dp.tk t3 t.noL db2
    have dw3 := Dp.tk t3 (pars_noL own) dw2
    clear hh t3 hp2 k2 db2 dw2
    refine ⟨_, rfl, _, rfl, p, C, dx, _, rfl, hp3, PC.cl, PC.a2, by show 1 < 1000; decide, ?_⟩
    generalize hh : upd H3 p _ = H4
    obtain ⟨k4, hp4, t4, -⟩ := fin k3 hp3 hh
    rw [show putF "_named" (V.str nm) [] = [(("_named" : Str), V.str nm)] from rfl, pf2] at hp4
    have db4 := Dp.tk t4 t.noL db3
    have dw4 := Dp.tk t4 (pars_noL own) dw3
    rw [show putF "_named" (V.str nm) [] = [(("_named" : Str), V.str nm)] from rfl, pf2] at hh
    clear t4 hp3 k3 db3 dw3 hh
    refine ⟨_, rfl, _, rfl, p, C, dx, _, rfl, hp4, PC.cl, PC.a3, by show 2 < 1000; decide, ?_⟩
    generalize hh : upd H4 p _ = H5
    obtain ⟨k5, hp5, t5, -⟩ := fin k4 hp4 hh
    rw [pf3] at hp5
    have db5 := Dp.tk t5 t.noL db4
    have dw5 := Dp.tk t5 (pars_noL own) dw4
    clear t5 hp4 k4 db4 dw4 hh
    -- the parts
    refine ⟨_, rfl, own, bv, t, rfl, db5, gd, by omega, by omega, fun H6 pa xs s6 na hpa rx => ?_⟩
    have naH : H pa = none := by
      cases e : H pa with
      | none => rfl
      | some o =>
        have npa : pa ≠ p := fun z => by
          rw [z, hp5] at na
          cases na
        have := k5 _ _ npa e
        rw [this] at na
        cases na
    have hp6 := s6 _ _ hp5
    have k6 := k5.trans (.of s6)
    have db6 := Dp.tk (.of s6) t.noL db5
    have dw6 := Dp.tk (.of s6) (pars_noL own) dw5
    have npa : pa ≠ p := fun z => by
      rw [z, hp5] at na
      cases na
    clear hp5 k5 db5 dw5 s6 na
    refine ⟨_, rfl, p, C, dx, _, rfl, hp6, PC.cl, PC.a4, by show 3 < 1000; decide, ?_⟩
    generalize hh : upd H6 p _ = H7
    obtain ⟨k7, hp7, t7, j7⟩ := fin k6 hp6 hh
    rw [pf4] at hp7
    have db7 := Dp.tk t7 t.noL db6
    have dw7 := Dp.tk t7 (pars_noL own) dw6
    have hpa7 := j7 _ _ npa hpa
    have rx7 := DpAll.tk t7 (noL_datas _) rx
    clear t7 hp6 k6 db6 dw6 hh j7 hpa rx
    -- the kinds
    obtain ⟨aw, ps, rfl, sqp, rp⟩ := Dp.tup_inv (show Dp K H7 pv' (.tuple (own.map parD)) from dw7)
    have lp : ps.length = own.length := by rw [DpAll.len rp, List.length_map]
    refine ⟨_, rfl, aw, rfl, ⟨ps, sqp⟩, fun D nD => ?_⟩
    refine lc_tup (xs := ps) (fun i H' => Same H7 H' ∧ H' D = some (.lst ((own.take i).map fun z => V.str (kd z.2)))) ⟨same_upd nD, upd_same⟩ (fun i H' hi h => Same.sqT h.1 sqp) (fun i x H8 hx h => ?_) (fun H8 h => ?_)
    · obtain ⟨sm, eD⟩ := h
      obtain ⟨d, hd, dx'⟩ := DpAll.get (DpAll.stay (.of sm) (pars_noL own) rp) hx
      rw [List.getElem?_map] at hd
      obtain ⟨z, hz, rfl⟩ := Option.map_eq_some_iff.mp hd
      have li := (List.getElem?_eq_some_iff.mp hx).1
      have f3 := po.few
      obtain ⟨b, ys, rfl, sb, rb⟩ := Dp.tup_inv (show Dp K H8 x (.tuple [.str z.1, .str (kd z.2)]) from dx')
      cases rb with
      | cons y1 rb => cases rb with
        | cons y2 rb =>
        cases rb
        cases Dp.str_inv y1
        cases Dp.str_inv y2
        refine ⟨b, _, rfl, sb, rfl, _, _, rfl, _, _, rfl, rfl, ?_⟩
        refine ⟨rfl, _, rfl, _, eD, ?_, Same.set sm nD, ?_⟩
        · rw [List.length_map, List.length_take]
          exact Nat.lt_of_le_of_lt (Nat.min_le_right _ _) (small1000 (by omega))
        · rw [upd_same, take_one (fun z : Str × Bool => V.str (kd z.2)) hz]
    · obtain ⟨s8, eD⟩ := h
      rw [lp, List.take_length] at eD
      refine ⟨D, _, rfl, .inl ⟨.inl (.inl eD), fun ka nk => ?_⟩⟩
      have s9 := s8.trans (same_upd (o := .tup (own.map fun z => V.str (kd z.2))) nk)
      have ek : upd H8 ka (.tup (own.map fun z => V.str (kd z.2))) ka = some (.tup (own.map fun z => V.str (kd z.2))) := upd_same
      generalize upd H8 ka (.tup (own.map fun z => V.str (kd z.2))) = H9 at s9 ek ⊢
      have dk9 : Dp K H9 (.ref ka) (kindD own) := .tup (.inl (.inl ek)) (by
        have h : ∀ l : List (Str × Bool), DpAll K H9 (l.map fun z => V.str (kd z.2)) (l.map fun z => PyData.str (kd z.2)) := fun l => by
          induction l with
          | nil => exact .nil
          | cons x r ih => exact .cons (.str _) ih
        exact h own)
      have hp9 := s9 _ _ hp7
      have k9 := k7.trans (.of s9)
      have db9 := Dp.tk (.of s9) t.noL db7
      have dw9 := Dp.tk (.of s9) (pars_noL own) dw7
      have hpa9 := s9 _ _ hpa7
      have rx9 := DpAll.tk (.of s9) (noL_datas _) rx7
      clear s8 eD nk s9 ek hp7 k7 db7 dw7 hpa7 rx7 sqp rp nD
      refine ⟨_, rfl, p, C, dx, _, rfl, hp9, PC.cl, PC.a5, by show 4 < 1000; decide, ?_⟩
      generalize hh : upd H9 p _ = G0
      obtain ⟨k0, hp0, t0, j0⟩ := fin k9 hp9 hh
      rw [pf5] at hp0
      have db0 := Dp.tk t0 t.noL db9
      have dw0 := Dp.tk t0 (pars_noL own) dw9
      have hpa0 := j0 _ _ npa hpa9
      have rx0 := DpAll.tk t0 (noL_datas _) rx9
      have dk0 := Dp.tk t0 (kindD_noL own) dk9
      clear t0 hp9 k9 db9 dw9 hh j0 hpa9 rx9 dk9
      have lx : xs.length = t.count := by rw [DpAll.len rx0, datas_len]; rfl
      have la : t.all.length = t.count := rfl
      have ne : xs ≠ [] := fun z => by
        have := count_pos t
        rw [z] at lx
        simp at lx
        omega
      -- the words
      refine ⟨_, rfl, p, C, dx, _, _, rfl, hp0, PC.cl, PC.a4, lkq4, pa, rfl, ⟨xs, .inl (.inl hpa0)⟩, fun D2 nD2 => ?_⟩
      refine set_list (xs := xs) (fun i H' => Same G0 H' ∧ H' D2 = some (SO w D2 (uniq ((t.all.take i).filterMap wordOf)))) ⟨same_upd nD2, upd_same⟩ (fun i H' hi h => .inl (.inl (h.1 _ _ hpa0))) (fun i x G1 hx h => ?_) (fun G1 h => ?_)
      · obtain ⟨sm, eD⟩ := h
        obtain ⟨u, hu, du⟩ := datas_at (DpAll.tk (.of sm) (noL_datas _) rx0) hx
        obtain ⟨b, ys, rfl, sb, hw, -⟩ := deed_open du
        refine ⟨rfl, _, rfl, b, _, 0, _, rfl, rfl, sb, at0, rfl, _, rfl, ?_⟩
        rw [tag_dec u.hd (j := 0)]
        refine ite2 (fun e => ?_) (fun e => ?_)
        · rcases hw with ⟨_, wd', zs, ew, rfl⟩ | ⟨e0, _⟩
          · refine ⟨_, rfl, b, _, 1, _, rfl, rfl, sb, at1, wd', _, rfl, eD, uniq_small (fm_len _ _ _) (by omega), Same.set sm nD2, ?_⟩
            rw [upd_same, fm_some hu ew, uniq_more]
            rfl
          · exact absurd (of_decide_eq_true e) e0
        · rcases hw with ⟨e0, _⟩ | ⟨_, ew⟩
          · exact absurd (decide_eq_true e0) e
          · rw [fm_none hu ew]
            exact ⟨sm, eD⟩
      · obtain ⟨s1, eD⟩ := h
        rw [lx, ← la, List.take_length] at eD
        refine ⟨D2, _, rfl, eD, by have := uniq_small (fm_len t.all t.all.length wordOf) (by omega); rw [List.take_length] at this; have e : scanBound = 4096 := rfl; omega, fun ws q1 pm so nq => ?_⟩
        have s2 := s1.trans (same_upd (o := .lst (ws.map V.str)) nq)
        have e2 : upd G1 q1 (.lst (ws.map V.str)) q1 = some (.lst (ws.map V.str)) := upd_same
        generalize upd G1 q1 (.lst (ws.map V.str)) = G2 at s2 e2 ⊢
        refine ⟨q1, _, rfl, .inl ⟨.inl (.inl e2), fun wa nw' => ?_⟩⟩
        have s3 := s2.trans (same_upd (o := .tup (ws.map V.str)) nw')
        have e3 : upd G2 wa (.tup (ws.map V.str)) wa = some (.tup (ws.map V.str)) := upd_same
        generalize upd G2 wa (.tup (ws.map V.str)) = G3 at s3 e3 ⊢
        have dws3 : Dp K G3 (.ref wa) (strsD ws) := .tup (.inl (.inl e3)) (dp_strs ws)
        have rws : Ranks (t.all.filterMap wordOf) ws := ⟨pm, so⟩
        have hp3 := s3 _ _ hp0
        have k3 := k0.trans (.of s3)
        have db3 := Dp.tk (.of s3) t.noL db0
        have dw3 := Dp.tk (.of s3) (pars_noL own) dw0
        have hpa3 := s3 _ _ hpa0
        have rx3 := DpAll.tk (.of s3) (noL_datas _) rx0
        have dk3 := Dp.tk (.of s3) (kindD_noL own) dk0
        clear s1 eD pm so nq s2 e2 nw' s3 e3 hp0 k0 db0 dw0 hpa0 rx0 dk0 nD2
        refine ⟨_, rfl, p, C, dx, _, rfl, hp3, PC.cl, PC.a6, by show 5 < 1000; decide, ?_⟩
        generalize hh : upd G3 p _ = G4
        obtain ⟨k4, hp4, t4, j4⟩ := fin k3 hp3 hh
        rw [pf6] at hp4
        have db4 := Dp.tk t4 t.noL db3
        have dw4 := Dp.tk t4 (pars_noL own) dw3
        have hpa4 := j4 _ _ npa hpa3
        have rx4 := DpAll.tk t4 (noL_datas _) rx3
        have dk4 := Dp.tk t4 (kindD_noL own) dk3
        have dws4 := Dp.tk t4 (strs_noL ws) dws3
        clear t4 hp3 k3 db3 dw3 hh j4 hpa3 rx3 dk3 dws3
        -- the uses
        refine ⟨_, rfl, p, C, dx, _, _, rfl, hp4, PC.cl, PC.a4, lkr4, pa, rfl, ⟨xs, .inl (.inl hpa4)⟩, fun D3 nD3 => ?_⟩
        refine set_list (xs := xs) (fun i H' => Same G4 H' ∧ H' D3 = some (SO w D3 (uniq ((t.all.take i).filterMap useOf)))) ⟨same_upd nD3, upd_same⟩ (fun i H' hi h => .inl (.inl (h.1 _ _ hpa4))) (fun i x G5 hx h => ?_) (fun G5 h => ?_)
        · obtain ⟨sm, eD⟩ := h
          obtain ⟨u, hu, du⟩ := datas_at (DpAll.tk (.of sm) (noL_datas _) rx4) hx
          obtain ⟨b, ys, rfl, sb, -, hw⟩ := deed_open du
          refine ⟨rfl, _, rfl, b, _, 0, _, rfl, rfl, sb, at0, by show 2 ≤ sizeLine; decide, fun p2 np2 => ?_⟩
          have sm2 := sm.trans (same_upd (o := .tup ([("call" : Str), "with"].map V.str)) np2)
          have eD2 := same_upd (o := .tup ([("call" : Str), "with"].map V.str)) np2 _ _ eD
          have sb2 := Same.sqT (same_upd (o := .tup ([("call" : Str), "with"].map V.str)) np2) sb
          refine ⟨p2, [("call" : Str), "with"].map V.str, rfl, .inr (.inl (.inl upd_same)), rfl, flat_strs _, _, rfl, ?_⟩
          rw [inV_strs, tag2]
          refine ite2 (fun e => ?_) (fun e => ?_)
          · rcases hw with ⟨_, wd', zs, ew, rfl⟩ | ⟨e0, _⟩
            · refine ⟨_, rfl, b, _, 1, _, rfl, rfl, sb2, at1, wd', _, rfl, eD2, uniq_small (fm_len _ _ _) (by omega), Same.set sm2 nD3, ?_⟩
              rw [upd_same, fm_some hu ew, uniq_more]
              rfl
            · rw [e0] at e
              cases e
          · rcases hw with ⟨e0, _⟩ | ⟨_, ew⟩
            · exact absurd e0 e
            · rw [fm_none hu ew]
              exact ⟨sm2, eD2⟩
        · obtain ⟨s1, eD⟩ := h
          rw [lx, ← la, List.take_length] at eD
          refine ⟨D3, _, rfl, eD, by have := uniq_small (fm_len t.all t.all.length useOf) (by omega); rw [List.take_length] at this; have e : scanBound = 4096 := rfl; omega, fun us q1 pm so nq => ?_⟩
          have s2 := s1.trans (same_upd (o := .lst (us.map V.str)) nq)
          have e2 : upd G5 q1 (.lst (us.map V.str)) q1 = some (.lst (us.map V.str)) := upd_same
          generalize upd G5 q1 (.lst (us.map V.str)) = G6 at s2 e2 ⊢
          refine ⟨q1, _, rfl, .inl ⟨.inl (.inl e2), fun ua nu => ?_⟩⟩
          have s3 := s2.trans (same_upd (o := .tup (us.map V.str)) nu)
          have e3 : upd G6 ua (.tup (us.map V.str)) ua = some (.tup (us.map V.str)) := upd_same
          generalize upd G6 ua (.tup (us.map V.str)) = G7 at s3 e3 ⊢
          have dus3 : Dp K G7 (.ref ua) (strsD us) := .tup (.inl (.inl e3)) (dp_strs us)
          have hp5 := s3 _ _ hp4
          refine ⟨_, rfl, p, C, dx, _, rfl, hp5, PC.cl, PC.a7, by show 6 < 1000; decide, ?_⟩
          generalize hh : upd G7 p _ = G8
          obtain ⟨k8, hp8, t8, j8⟩ := fin (k4.trans (.of s3)) hp5 hh
          rw [pf7] at hp8
          have tt := (TK.of s3).trans t8
          have fin8 : ∀ D o, H D = some o → D ≠ p → PAtD K C G8 D p nm own t := fun D o hD nD => ⟨⟨dx, _, bv, pa, ka, wa, ua, xs, ws, us, hp8, Dp.tk tt (pars_noL own) dw4, Dp.tk tt t.noL db4, j8 _ _ npa (s3 _ _ hpa4), DpAll.tk tt (noL_datas _) rx4, Dp.tk tt (kindD_noL own) dk4, Dp.tk tt (strs_noL ws) dws4, Dp.tk t8 (strs_noL us) dus3, rws, ⟨pm, so⟩, fun z => by
            rw [z, hD] at naH
            cases naH⟩, fun z => nD z.symm, wd, po, gd, nw, few, low⟩
          exact q G8 ⟨⟨dx, _, bv, pa, ka, wa, ua, xs, ws, us, hp8, Dp.tk tt (pars_noL own) dw4, Dp.tk tt t.noL db4, j8 _ _ npa (s3 _ _ hpa4), DpAll.tk tt (noL_datas _) rx4, Dp.tk tt (kindD_noL own) dk4, Dp.tk tt (strs_noL ws) dws4, Dp.tk t8 (strs_noL us) dus3, rws, ⟨pm, so⟩⟩, wd, po, gd, nw, few, low⟩ k8 fin8
end
end FS
set_option Elab.async false
set_option linter.all false
set_option maxRecDepth 100000
set_option maxHeartbeats 4000000
namespace FS
open PySem PySem.Spec PyProof.Rows L2
section
variable {P : Program} {w : World} {K : PySem.W.Frag} {mg : Str → Option Value} {base : Heap}
abbrev NProcedurenamed : List Str := ["self"]
theorem scProcedurenamed : FnScope NProcedurenamed ["self"] (defScope sProcedurenamed) := ⟨rfl, rfl, rfl, by decide +kernel, rfl, by decide +kernel, by decide +kernel⟩
theorem ok_Procedurenamed {f : Addr} {fd : FuncData} (F : Fun K "named" "Procedure.named" sProcedurenamed f fd) (T : Nm K mg) {C : Addr} (PC : PrC K mg C) : FnOk P w K mg base CX0 1 f fd ["self"] (spGet K C "_named") := by
  have nd := scProcedurenamed.nd
  refine F.ok scProcedurenamed (fun vs H Q E h => ?_) (fun cdv A outer s H vs Q E hr h => ?_)
  · obtain ⟨a, dx, fs, v, rfl, ha, lk, q⟩ := h
    rfl
  · obtain ⟨a, dx, fs, v, rfl, ha, lk, q⟩ := h
    skip
    refine ⟨_, (pss_one (ps_ret (pe_fld (pv 0) rfl))), ?_⟩

    exact ⟨_, rfl, a, C, dx, fs, v, rfl, ha, PC.cl, PC.a1, lk, q⟩
end
end FS
set_option Elab.async false
set_option linter.all false
set_option maxRecDepth 100000
set_option maxHeartbeats 4000000
namespace FS
open PySem PySem.Spec PyProof.Rows L2
section
variable {P : Program} {w : World} {K : PySem.W.Frag} {mg : Str → Option Value} {base : Heap}
abbrev NProcedureparameters : List Str := ["self"]
theorem scProcedureparameters : FnScope NProcedureparameters ["self"] (defScope sProcedureparameters) := ⟨rfl, rfl, rfl, by decide +kernel, rfl, by decide +kernel, by decide +kernel⟩
theorem ok_Procedureparameters {f : Addr} {fd : FuncData} (F : Fun K "parameters" "Procedure.parameters" sProcedureparameters f fd) (T : Nm K mg) {C : Addr} (PC : PrC K mg C) : FnOk P w K mg base CX0 1 f fd ["self"] (spGet K C "_parameters") := by
  have nd := scProcedureparameters.nd
  refine F.ok scProcedureparameters (fun vs H Q E h => ?_) (fun cdv A outer s H vs Q E hr h => ?_)
  · obtain ⟨a, dx, fs, v, rfl, ha, lk, q⟩ := h
    rfl
  · obtain ⟨a, dx, fs, v, rfl, ha, lk, q⟩ := h
    skip
    refine ⟨_, (pss_one (ps_ret (pe_fld (pv 0) rfl))), ?_⟩

    exact ⟨_, rfl, a, C, dx, fs, v, rfl, ha, PC.cl, PC.a2, lk, q⟩
end
end FS
set_option Elab.async false
set_option linter.all false
set_option maxRecDepth 100000
set_option maxHeartbeats 4000000
namespace FS
open PySem PySem.Spec PyProof.Rows L2
section
variable {P : Program} {w : World} {K : PySem.W.Frag} {mg : Str → Option Value} {base : Heap}
abbrev NProcedurebody : List Str := ["self"]
theorem scProcedurebody : FnScope NProcedurebody ["self"] (defScope sProcedurebody) := ⟨rfl, rfl, rfl, by decide +kernel, rfl, by decide +kernel, by decide +kernel⟩
theorem ok_Procedurebody {f : Addr} {fd : FuncData} (F : Fun K "body" "Procedure.body" sProcedurebody f fd) (T : Nm K mg) {C : Addr} (PC : PrC K mg C) : FnOk P w K mg base CX0 1 f fd ["self"] (spGet K C "_body") := by
  have nd := scProcedurebody.nd
  refine F.ok scProcedurebody (fun vs H Q E h => ?_) (fun cdv A outer s H vs Q E hr h => ?_)
  · obtain ⟨a, dx, fs, v, rfl, ha, lk, q⟩ := h
    rfl
  · obtain ⟨a, dx, fs, v, rfl, ha, lk, q⟩ := h
    skip
    refine ⟨_, (pss_one (ps_ret (pe_fld (pv 0) rfl))), ?_⟩

    exact ⟨_, rfl, a, C, dx, fs, v, rfl, ha, PC.cl, PC.a3, lk, q⟩
end
end FS
set_option Elab.async false
set_option linter.all false
set_option maxRecDepth 100000
set_option maxHeartbeats 4000000
namespace FS
open PySem PySem.Spec PyProof.Rows L2
section
variable {P : Program} {w : World} {K : PySem.W.Frag} {mg : Str → Option Value} {base : Heap}
abbrev NProcedurekinds : List Str := ["self"]
theorem scProcedurekinds : FnScope NProcedurekinds ["self"] (defScope sProcedurekinds) := ⟨rfl, rfl, rfl, by decide +kernel, rfl, by decide +kernel, by decide +kernel⟩
theorem ok_Procedurekinds {f : Addr} {fd : FuncData} (F : Fun K "kinds" "Procedure.kinds" sProcedurekinds f fd) (T : Nm K mg) {C : Addr} (PC : PrC K mg C) : FnOk P w K mg base CX0 1 f fd ["self"] (spGet K C "_kinds") := by
  have nd := scProcedurekinds.nd
  refine F.ok scProcedurekinds (fun vs H Q E h => ?_) (fun cdv A outer s H vs Q E hr h => ?_)
  · obtain ⟨a, dx, fs, v, rfl, ha, lk, q⟩ := h
    rfl
  · obtain ⟨a, dx, fs, v, rfl, ha, lk, q⟩ := h
    skip
    refine ⟨_, (pss_one (ps_ret (pe_fld (pv 0) rfl))), ?_⟩

    exact ⟨_, rfl, a, C, dx, fs, v, rfl, ha, PC.cl, PC.a5, lk, q⟩
end
end FS
set_option Elab.async false
set_option linter.all false
set_option maxRecDepth 100000
set_option maxHeartbeats 4000000
namespace FS
open PySem PySem.Spec PyProof.Rows L2
section
variable {P : Program} {w : World} {K : PySem.W.Frag} {mg : Str → Option Value} {base : Heap}
abbrev NProcedurewords : List Str := ["self"]
theorem scProcedurewords : FnScope NProcedurewords ["self"] (defScope sProcedurewords) := ⟨rfl, rfl, rfl, by decide +kernel, rfl, by decide +kernel, by decide +kernel⟩
theorem ok_Procedurewords {f : Addr} {fd : FuncData} (F : Fun K "words" "Procedure.words" sProcedurewords f fd) (T : Nm K mg) {C : Addr} (PC : PrC K mg C) : FnOk P w K mg base CX0 1 f fd ["self"] (spGet K C "_words") := by
  have nd := scProcedurewords.nd
  refine F.ok scProcedurewords (fun vs H Q E h => ?_) (fun cdv A outer s H vs Q E hr h => ?_)
  · obtain ⟨a, dx, fs, v, rfl, ha, lk, q⟩ := h
    rfl
  · obtain ⟨a, dx, fs, v, rfl, ha, lk, q⟩ := h
    skip
    refine ⟨_, (pss_one (ps_ret (pe_fld (pv 0) rfl))), ?_⟩

    exact ⟨_, rfl, a, C, dx, fs, v, rfl, ha, PC.cl, PC.a6, lk, q⟩
end
end FS
set_option Elab.async false
set_option linter.all false
set_option maxRecDepth 100000
set_option maxHeartbeats 4000000
namespace FS
open PySem PySem.Spec PyProof.Rows L2
section
variable {P : Program} {w : World} {K : PySem.W.Frag} {mg : Str → Option Value} {base : Heap}
abbrev NProcedure__len__ : List Str := ["self"]
theorem scProcedure__len__ : FnScope NProcedure__len__ ["self"] (defScope sProcedure__len__) := ⟨rfl, rfl, rfl, by decide +kernel, rfl, by decide +kernel, by decide +kernel⟩
theorem ok_Procedure__len__ {f : Addr} {fd : FuncData} (F : Fun K "__len__" "Procedure.__len__" sProcedure__len__ f fd) (T : Nm K mg) {C : Addr} (PC : PrC K mg C) : FnOk P w K mg base CX0 1 f fd ["self"] (spLen K C) := by
  have nd := scProcedure__len__.nd
  refine F.ok scProcedure__len__ (fun vs H Q E h => ?_) (fun cdv A outer s H vs Q E hr h => ?_)
  · obtain ⟨a, nm, own, t, rfl, pt, q⟩ := h
    rfl
  · obtain ⟨a, nm, own, t, rfl, pt, q⟩ := h
    skip
    refine ⟨_, (pss_one (ps_ret (pe_callB call_len (by rfl) T.b_len PySem.boot_len (pa_cons (pe_fld (pv 0) rfl) pa_nil)))), ?_⟩

    obtain ⟨⟨dx, pv', bv, pa, ka, wa, ua, xs, ws, us, h1, h2, h3, h4, h5, h6, h7, h8, h9, h10⟩, b, c, d, e, f, g⟩ := pt
    have l : xs.length = t.count := by rw [DpAll.len h5, datas_len]; rfl
    refine ⟨_, rfl, a, C, dx, _, _, rfl, h1, PC.cl, PC.a4, lk4, _, _, rfl, .inl ⟨xs, .inl (.inl h4), rfl⟩, ?_⟩
    rw [l]
    exact q
end
end FS
set_option Elab.async false
set_option linter.all false
set_option maxRecDepth 100000
set_option maxHeartbeats 4000000
namespace FS
open PySem PySem.Spec PyProof.Rows L2
section
variable {P : Program} {w : World} {K : PySem.W.Frag} {mg : Str → Option Value} {base : Heap}
abbrev NProcedure__str__ : List Str := ["self"]
theorem scProcedure__str__ : FnScope NProcedure__str__ ["self"] (defScope sProcedure__str__) := ⟨rfl, rfl, rfl, by decide +kernel, rfl, by decide +kernel, by decide +kernel⟩
theorem ok_Procedure__str__ {f : Addr} {fd : FuncData} (F : Fun K "__str__" "Procedure.__str__" sProcedure__str__ f fd) (T : Nm K mg) {C : Addr} (PC : PrC K mg C) : FnOk P w K mg base CX0 1 f fd ["self"] (spStr K C) := by
  have nd := scProcedure__str__.nd
  refine F.ok scProcedure__str__ (fun vs H Q E h => ?_) (fun cdv A outer s H vs Q E hr h => ?_)
  · obtain ⟨a, nm, own, t, rfl, pt, q⟩ := h
    rfl
  · obtain ⟨a, nm, own, t, rfl, pt, q⟩ := h
    skip
    refine ⟨_, (pss_one (ps_ret (pe_joined (.cons pe_str (.cons (pe_fmt (pe_fld (pv 0) rfl)) (.cons pe_str (.cons (pe_fmt (pe_callB call_len (by rfl) T.b_len PySem.boot_len (pa_cons (pe_fld (pv 0) rfl) pa_nil))) (.cons pe_str (.cons (pe_fmt (pe_callB call_len (by rfl) T.b_len PySem.boot_len (pa_cons (pe_fld (pv 0) rfl) pa_nil))) (.cons pe_str .nil)))))))))), ?_⟩

    obtain ⟨⟨dx, pv', bv, pa, ka, wa, ua, xs, ws, us, h1, h2, h3, h4, h5, h6, h7, h8, h9, h10⟩, b, c, d, e, f, g⟩ := pt
    have l : xs.length = t.count := by rw [DpAll.len h5, datas_len]; rfl
    obtain ⟨aw, ps, rfl, sqp, rp⟩ := Dp.tup_inv (show Dp K H pv' (.tuple (own.map parD)) from h2)
    have lp : ps.length = own.length := by rw [DpAll.len rp, List.length_map]
    have ln := (word_ok b).2
    have s3 := c.few
    have z : sizeLine = 16777216 := sizeLine_eq
    have small : ∀ n : Nat, n < 41 → (Str.ofString (toString (n : Int))).length ≤ 5 := by decide +kernel
    have z1 := small own.length (by omega)
    have z2 := small t.count (by omega)
    have y1 : (Str.empty ++ ("procedure " : Str)).length = 10 := by decide +kernel
    have y2 : (", " : Str).length = 2 := by decide +kernel
    have y3 : (" parameters, " : Str).length = 13 := by decide +kernel
    have y4 : (" terms" : Str).length = 6 := by decide +kernel
    have la : ∀ a b : Str, (a ++ b).length = a.length + b.length := fun a b => len_app a b
    refine ⟨_, rfl, by omega, ?_⟩
    refine ⟨_, rfl, a, C, dx, _, _, rfl, h1, PC.cl, PC.a1, lk1, .inl ⟨nm, rfl, by omega, nm, rfl, by rw [la]; omega, ?_⟩⟩
    refine ⟨_, rfl, by rw [la, la]; omega, ?_⟩
    refine ⟨_, rfl, a, C, dx, _, _, rfl, h1, PC.cl, PC.a2, lk2, _, _, rfl, .inr ⟨ps, sqp, rfl⟩, .inr ⟨_, rfl, ?_, _, rfl, ?_, ?_⟩⟩
    · rw [lp]
      exact small_log own.length (by omega)
    · rw [lp, la, la, la]
      omega
    refine ⟨_, rfl, by rw [lp, la, la, la, la]; omega, ?_⟩
    refine ⟨_, rfl, a, C, dx, _, _, rfl, h1, PC.cl, PC.a4, lk4, _, _, rfl, .inl ⟨xs, .inl (.inl h4), rfl⟩, .inr ⟨_, rfl, ?_, _, rfl, ?_, ?_⟩⟩
    · rw [l]
      exact small_log t.count (by omega)
    · rw [l, lp, la, la, la, la, la]
      omega
    refine ⟨_, rfl, by rw [l, lp, la, la, la, la, la, la]; omega, ?_⟩
    refine q _ ?_
    rw [l, lp]
    rfl
end
end FS
set_option Elab.async false
set_option linter.all false
set_option maxRecDepth 100000
set_option maxHeartbeats 4000000
namespace FS
open PySem PySem.Spec PyProof.Rows L2
section
variable {P : Program} {w : World} {K : PySem.W.Frag} {mg : Str → Option Value} {base : Heap}
abbrev NProcedure__eq__ : List Str := ["self", "other"]
theorem scProcedure__eq__ : FnScope NProcedure__eq__ ["self", "other"] (defScope sProcedure__eq__) := ⟨rfl, rfl, rfl, by decide +kernel, rfl, by decide +kernel, by decide +kernel⟩
theorem ok_Procedure__eq__ {f : Addr} {fd : FuncData} (F : Fun K "__eq__" "Procedure.__eq__" sProcedure__eq__ f fd) (T : Nm K mg) {C : Addr} (PC : PrC K mg C) : FnOk P w K mg base CX0 1 f fd ["self", "other"] (spEqT K C) := by
  have nd := scProcedure__eq__.nd
  refine F.ok scProcedure__eq__ (fun vs H Q E h => ?_) (fun cdv A outer s H vs Q E hr h => ?_)
  · obtain ⟨a, y, nm, own, t, rfl, pt, q⟩ := h
    rfl
  · obtain ⟨a, y, nm, own, t, rfl, pt, q⟩ := h
    skip
    refine ⟨_, (pss_one (ps_ret (pe_and (pe_callB call_isi (by rfl) T.b_isinstance (by decide +kernel) (pa_cons (pv 1) (pa_cons (pe_glob (v := .ref C) (by rfl) PC.gC rfl) pa_nil))) (pe_and (pe_cmpR op_eq (pe_fld (pv 0) rfl) (pe_fld (pv 1) rfl) (nomark _)) (pe_and (pe_cmpR (op_eqD hr.units) (pe_fld (pv 0) rfl) (pe_fld (pv 1) rfl) (nomark _)) (pe_one (pe_cmpR (op_eqD hr.units) (pe_fld (pv 0) rfl) (pe_fld (pv 1) rfl) (nomark _)))))))), ?_⟩

    obtain ⟨⟨dx, pv', bv, pa, ka, wa, ua, xs, ws, us, h1, h2, h3, h4, h5, h6, h7, h8, h9, h10⟩, b, po, gd, e, f, g⟩ := pt
    rcases q with ⟨ty, ht, hk, q⟩ | ⟨b2, nm', own', t', rfl, ⟨⟨dx', pv2, bv2, pa', ka', wa', ua', xs', ws', us', h1', h2', h3', _⟩, b', po', gd', e', f', g'⟩, q⟩
    · exact ⟨_, rfl, _, _, _, _, false, rfl, .own C, ht, hk, false, rfl, q⟩
    · have ty : TyX K H (.ref b2) (.ref C) := .base (.ins h1' PC.cl PC.ha PC.hn PC.htk PC.hm)
      refine ⟨_, rfl, _, _, _, _, true, rfl, .own C, ty, PC.self, true, rfl, iteT ?_⟩
      refine ⟨_, rfl, a, C, dx, _, _, rfl, h1, PC.cl, PC.a1, lk1, _, rfl, b2, C, dx', _, _, rfl, h1', PC.cl, PC.a1, lk1, rfl, _, rfl, ?_⟩
      have e1 : decide (V.str nm = V.str nm') = (nm == nm') := by
        by_cases z : nm = nm' <;> simp [z]
      rw [e1]
      cases hn : (nm == nm') with
      | false =>
        rw [hn, Bool.false_and, Bool.false_and] at q
        exact iteF q
      | true =>
        rw [hn, Bool.true_and] at q
        refine iteT ?_
        refine ⟨_, rfl, a, C, dx, _, _, rfl, h1, PC.cl, PC.a2, lk2, _, rfl, b2, C, dx', _, _, rfl, h1', PC.cl, PC.a2, lk2, _, _, h2, h2', pars_shaped po, pars_shaped po', _, rfl, ?_⟩
        cases hp : PyData.eqv (parsD own) (parsD own') with
        | false =>
          rw [hp, Bool.false_and] at q
          exact iteF q
        | true =>
          rw [hp, Bool.true_and] at q
          refine iteT ?_
          refine ⟨_, rfl, a, C, dx, _, _, rfl, h1, PC.cl, PC.a3, lk3, _, rfl, b2, C, dx', _, _, rfl, h1', PC.cl, PC.a3, lk3, _, _, h3, h3', gd.shaped po.nms (by omega), gd'.shaped po'.nms (by omega), q⟩
end
end FS
set_option Elab.async false
set_option linter.all false
set_option maxRecDepth 100000
set_option maxHeartbeats 4000000
namespace FS
open PySem PySem.Spec PyProof.Rows L2
theorem cut_take (xs : List V) (k : Nat) : cutV xs none (some (k : Int)) = xs.take k := by
  unfold cutV
  rw [HT.sIx_nat, HT.sIx_none, List.drop_zero, Nat.sub_zero]
  by_cases h : k ≤ xs.length
  · rw [Nat.min_eq_left h]
  · rw [Nat.min_eq_right (by omega), List.take_length, List.take_of_length_le (by omega)]
theorem Go.free {H H' : Hp} {D p : Addr} (g : Go D H H') (n : H' p = none) : H p = none := by
  cases e : H p with
  | none => rfl
  | some o =>
    have ne := g.2.ne n
    rw [g.1 _ _ ne e] at n
    cases n
theorem take_str (ys : List Str) (k : Nat) : (ys.map V.str).take k = (ys.take k).map V.str := (List.map_take).symm
theorem TabV.app {K : PySem.W.Frag} {H : Hp} {kvs : List (Key × V)} {tb : Tbl} (t : TabV K H kvs tb) {x : Str} {v : V} {own : List (Str × Bool)} (h : Dp K H v (parsD own)) (po : ParOk own) (wd : wordB x = true) : TabV K H (kvs ++ [(Sum.inr x, v)]) (tb ++ [(x, own)]) := by
  induction t with
  | nil => exact .cons h po wd .nil
  | cons h' po' wd' r ih => exact .cons h' po' wd' ih
theorem TabV.map {K : PySem.W.Frag} {H : Hp} {kvs : List (Key × V)} {tb : Tbl} (t : TabV K H kvs tb) {x : Str} {v : V} {own : List (Str × Bool)} (h : Dp K H v (parsD own)) (po : ParOk own) (wd : wordB x = true) : ∃ tb', TabV K H (kvs.map fun kv => if kv.1 = Sum.inr x then (kv.1, v) else kv) tb' ∧ tb'.length = tb.length := by
  induction t with
  | nil => exact ⟨[], .nil, rfl⟩
  | @cons y u o kvs tb h' po' wd' r ih =>
    obtain ⟨tb', i1, i2⟩ := ih
    by_cases e : (Sum.inr y : Key) = Sum.inr x
    · refine ⟨(y, own) :: tb', ?_, by rw [List.length_cons, List.length_cons, i2]⟩
      rw [List.map_cons, if_pos e]
      exact .cons h po wd' i1
    · refine ⟨(y, o) :: tb', ?_, by rw [List.length_cons, List.length_cons, i2]⟩
      rw [List.map_cons, if_neg e]
      exact .cons h' po' wd' i1
theorem TabV.len {K : PySem.W.Frag} {H : Hp} {kvs : List (Key × V)} {tb : Tbl} (t : TabV K H kvs tb) : kvs.length = tb.length := by
  induction t with
  | nil => rfl
  | cons _ _ _ _ ih => rw [List.length_cons, List.length_cons, ih]
/-- a drawn row -/
structure RowAt (K : PySem.W.Frag) (H : Hp) (m : Int) (tb : Tbl) (r : Addr) (nm : Str) (own : List (Str × Bool)) (t : Tm) : Prop where
  ex : ∃ ov bv, H r = some (.lst [.str nm, ov, bv]) ∧ Dp K H ov (parsD own) ∧ Body K H m tb own bv t
  po : ParOk own
  wd : wordB nm = true
  lk : tb.lookup nm = some own
theorem RowAt.go {K : PySem.W.Frag} {H H' : Hp} {m : Int} {tb : Tbl} {D r : Addr} {nm : Str} {own : List (Str × Bool)} {t : Tm} (d : Die H D) (g : Go D H H') (x : RowAt K H m tb r nm own t) : RowAt K H' m tb r nm own t := by
  obtain ⟨⟨ov, bv, h1, h2, h3⟩, po, wd, lk⟩ := x
  have k := g.tk d
  refine ⟨⟨ov, bv, g.1 _ _ (fun z => ?_) h1, Dp.tk k (pars_noL own) h2, h3.tk k⟩, po, wd, lk⟩
  subst z
  obtain ⟨a, b, c, q⟩ := d
  rw [q] at h1
  cases Option.some.inj h1
theorem RowAt.same {K : PySem.W.Frag} {H H' : Hp} {m : Int} {tb : Tbl} {r : Addr} {nm : Str} {own : List (Str × Bool)} {t : Tm} (s : Same H H') (x : RowAt K H m tb r nm own t) : RowAt K H' m tb r nm own t := by
  obtain ⟨⟨ov, bv, h1, h2, h3⟩, po, wd, lk⟩ := x
  exact ⟨⟨ov, bv, s _ _ h1, Dp.tk (.of s) (pars_noL own) h2, h3.tk (.of s)⟩, po, wd, lk⟩
theorem RowAt.set {K : PySem.W.Frag} {H : Hp} {m : Int} {tb : Tbl} {r l : Addr} {nm : Str} {own : List (Str × Bool)} {t : Tm} {rs : List Addr} {ys : List V} (e : H l = some (.lst (rs.map V.ref))) (x : RowAt K H m tb r nm own t) : RowAt K (upd H l (.lst ys)) m tb r nm own t := by
  obtain ⟨⟨ov, bv, h1, h2, h3⟩, po, wd, lk⟩ := x
  have k := TK.stay (Stay.set (ys := ys) e)
  have n : r ≠ l := fun z => by
    subst z
    rw [e] at h1
    have h4 := HO.lst.inj (Option.some.inj h1)
    cases rs with
    | nil => cases h4
    | cons a b => cases (List.cons.inj h4).1
  exact ⟨⟨ov, bv, by rw [upd_ne n]; exact h1, Dp.tk k (pars_noL own) h2, h3.tk k⟩, po, wd, lk⟩
abbrev RowU := Str × List (Str × Bool) × Tm
/-- the rows of a drawn program -/
inductive RowsAt (K : PySem.W.Frag) (H : Hp) (m : Int) (tb : Tbl) : List Addr → List RowU → Prop
  | nil : RowsAt K H m tb [] []
  | cons {r : Addr} {u : RowU} {rs : List Addr} {us : List RowU} (h : RowAt K H m tb r u.1 u.2.1 u.2.2) (k : RowsAt K H m tb rs us) : RowsAt K H m tb (r :: rs) (u :: us)
theorem RowsAt.map {K : PySem.W.Frag} {H H' : Hp} {m : Int} {tb : Tbl} {rs : List Addr} {us : List RowU} (x : RowsAt K H m tb rs us) (f : ∀ {r : Addr} {nm : Str} {own : List (Str × Bool)} {t : Tm}, RowAt K H m tb r nm own t → RowAt K H' m tb r nm own t) : RowsAt K H' m tb rs us := by
  induction x with
  | nil => exact .nil
  | cons h _ ih => exact .cons (f h) ih
theorem RowsAt.app {K : PySem.W.Frag} {H : Hp} {m : Int} {tb : Tbl} {rs : List Addr} {us : List RowU} (x : RowsAt K H m tb rs us) {r : Addr} {u : RowU} (h : RowAt K H m tb r u.1 u.2.1 u.2.2) : RowsAt K H m tb (rs ++ [r]) (us ++ [u]) := by
  induction x with
  | nil => exact .cons h .nil
  | cons k _ ih => exact .cons k ih
theorem RowsAt.len {K : PySem.W.Frag} {H : Hp} {m : Int} {tb : Tbl} {rs : List Addr} {us : List RowU} (x : RowsAt K H m tb rs us) : rs.length = us.length := by
  induction x with
  | nil => rfl
  | cons _ _ ih => rw [List.length_cons, List.length_cons, ih]
end FS
set_option Elab.async false
set_option linter.all false
set_option maxRecDepth 100000
set_option maxHeartbeats 4000000
/-! comprehensions told once: what is made of each, and what stays -/
namespace FS
open PySem PySem.Spec PyProof.Rows L2
/-- what a turn of a comprehension keeps: its new list stands at D -/
structure Kept (D : Addr) (H1 : Hp) (inv : Hp → Prop) (S : Hp → Hp → Prop) : Prop where
  i0 : inv (upd H1 D (.lst []))
  st : ∀ H H', inv H → S H H' → inv H'
  sL : ∀ H H' xs, inv H → S H H' → H D = some (.lst xs) → H' D = some (.lst xs)
  pu : ∀ H xs ys, inv H → H D = some (.lst xs) → inv (upd H D (.lst ys))
theorem kept_same {D : Addr} {H1 : Hp} (n : H1 D = none) : Kept D H1 (Same H1) Same :=
  ⟨same_upd n, fun _ _ a b => a.trans b, fun _ _ _ _ s e => s _ _ e, fun _ _ _ a _ => Same.set a n⟩
theorem kept_go {A D : Addr} {H1 : Hp} (d : Die H1 A) (n : H1 D = none) : Kept D H1 (Go A H1) (Go A) :=
  ⟨.new d n, fun _ _ a b => a.trans b, fun _ _ _ _ g e => g.1 _ _ (d.ne n) e, fun _ _ _ a _ => a.upd n (d.ne n)⟩
section
variable {J : It} {n : Nat} {G : Hp → Prop} {Y : Nat → Hp → V → Hp → Prop} {g : TG} {tt : TT} {te : TE} {vs : List Nat} {σ : L2.St} {H1 : Hp} {D : Addr} {Qd : Hp → Prop} {inv : Hp → Prop} {S : Hp → Hp → Prop}
theorem lcm (w : Walk J n G Y) (k : Kept D H1 inv S) (P : Hp → Nat → V → Prop) (ps : ∀ H H' i y, inv H → S H H' → P H i y → P H' i y) (pu : ∀ H xs ys i y, inv H → H D = some (.lst xs) → P H i y → P (upd H D (.lst ys)) i y)
    (hn : n < 16000) (hG : ∀ H, inv H → G H)
    (hs : ∀ i x H H' (N : VK), i < n → inv H → Y i H x H' → (∀ y H4, S H H4 → P H4 i y → N y H4) → g x (wipe σ vs) H' fun σ2 H2 => wipe σ2 vs = wipe σ vs ∧ te σ2 H2 N)
    (hd : ∀ H ys, inv H → H D = some (.lst ys) → ys.length = n → (∀ i y, ys[i]? = some y → P H i y) → Qd H) :
    ∃ W : Nat → Nat → Hp → Prop, (∃ m, W 0 m (upd H1 D (.lst []))) ∧ ∀ i m H, W i m H →
      (J.stop i H ∧ Qd H) ∨ (J.go i H ∧ ∃ Nx : Hp → Prop, (∀ H', Nx H' → ∃ m', m' < m ∧ W (i + 1) m' H') ∧ ∀ x H', J.yld i H x H' → g x (wipe σ vs) H' fun σ2 H2 => wipe σ2 vs = wipe σ vs ∧ tYes σ2 H2 fun b H3 =>
        if b = true then te σ2 H3 fun y H4 => ∃ acc, H4 D = some (.lst acc) ∧ acc.length < sizeLine ∧ Nx (upd H4 D (.lst (acc ++ [y]))) else Nx H3) := by
  refine lc_it w (fun i H => inv H ∧ ∃ ys, H D = some (.lst ys) ∧ ys.length = i ∧ ∀ j y, ys[j]? = some y → P H j y) ⟨k.i0, [], upd_same, rfl, fun j y h => nomatch h⟩ (fun i H _ h => hG H h.1) (fun i x H H' hi h hy => ?_) (fun H h => ?_)
  · obtain ⟨iv, ys, eD, ly, hp⟩ := h
    refine hs i x H H' _ hi iv hy fun y H4 s p => ?_
    have iv4 := k.st _ _ iv s
    have eD4 := k.sL _ _ _ iv s eD
    refine ⟨ys, eD4, small16 (by omega), k.pu _ _ _ iv4 eD4, ys ++ [y], upd_same, by rw [List.length_append, ly]; rfl, fun j z hz => ?_⟩
    by_cases hj : j < ys.length
    · rw [List.getElem?_append_left hj] at hz
      exact pu _ _ _ _ _ iv4 eD4 (ps _ _ _ _ iv s (hp j z hz))
    · rw [List.getElem?_append_right (by omega)] at hz
      have e : j = ys.length := by
        have := (List.getElem?_eq_some_iff.mp hz).1
        simp at this
        omega
      subst e
      rw [Nat.sub_self] at hz
      cases hz
      rw [ly]
      exact pu _ _ _ _ _ iv4 eD4 p
  · obtain ⟨iv, ys, eD, ly, hp⟩ := h
    exact hd H ys iv eD ly hp
/-- with an if; what is made of each is told by f -/
theorem lcf (w : Walk J n G Y) (k : Kept D H1 inv S) (f : Nat → Option V) (hn : n < 16000) (hG : ∀ H, inv H → G H)
    (hs : ∀ i x H H' (N1 : VK) (N0 : Hp → Prop), i < n → inv H → Y i H x H' → (∀ y H4, S H H4 → f i = some y → N1 y H4) → (∀ H4, S H H4 → f i = none → N0 H4) → g x (wipe σ vs) H' fun σ2 H2 => wipe σ2 vs = wipe σ vs ∧ tt σ2 H2 fun b H3 => if b = true then te σ2 H3 N1 else N0 H3)
    (hd : ∀ H, inv H → H D = some (.lst ((List.range n).filterMap f)) → Qd H) :
    ∃ W : Nat → Nat → Hp → Prop, (∃ m, W 0 m (upd H1 D (.lst []))) ∧ ∀ i m H, W i m H →
      (J.stop i H ∧ Qd H) ∨ (J.go i H ∧ ∃ Nx : Hp → Prop, (∀ H', Nx H' → ∃ m', m' < m ∧ W (i + 1) m' H') ∧ ∀ x H', J.yld i H x H' → g x (wipe σ vs) H' fun σ2 H2 => wipe σ2 vs = wipe σ vs ∧ tt σ2 H2 fun b H3 =>
        if b = true then te σ2 H3 fun y H4 => ∃ acc, H4 D = some (.lst acc) ∧ acc.length < sizeLine ∧ Nx (upd H4 D (.lst (acc ++ [y]))) else Nx H3) := by
  refine lc_it w (fun i H => inv H ∧ H D = some (.lst ((List.range i).filterMap f))) ⟨k.i0, upd_same⟩ (fun i H _ h => hG H h.1) (fun i x H H' hi h hy => ?_) (fun H h => hd H h.1 h.2)
  obtain ⟨iv, eD⟩ := h
  have ls : ((List.range i).filterMap f).length ≤ i := Nat.le_trans (List.length_filterMap_le _ _) (by rw [List.length_range]; exact Nat.le_refl _)
  refine hs i x H H' _ _ hi iv hy (fun y H4 s e => ?_) (fun H4 s e => ?_)
  · have iv4 := k.st _ _ iv s
    have eD4 := k.sL _ _ _ iv s eD
    refine ⟨_, eD4, small16 (by omega), k.pu _ _ _ iv4 eD4, ?_⟩
    rw [upd_same, List.range_succ, List.filterMap_append]
    simp [e]
  · refine ⟨k.st _ _ iv s, ?_⟩
    rw [k.sL _ _ _ iv s eD, List.range_succ, List.filterMap_append]
    simp [e]
/-- nothing but the die changes -/
theorem lcmG {A : Addr} (w : Walk J n G Y) (d : Die H1 A) (nD : H1 D = none) (P : Hp → Nat → V → Prop) (pt : ∀ H H' i y, TK H H' → P H i y → P H' i y) (hn : n < 16000) (hG : ∀ H, Go A H1 H → G H)
    (hs : ∀ i x H H' (N : VK), i < n → Go A H1 H → Y i H x H' → (∀ y H4, Go A H H4 → P H4 i y → N y H4) → g x (wipe σ vs) H' fun σ2 H2 => wipe σ2 vs = wipe σ vs ∧ te σ2 H2 N)
    (hd : ∀ H ys, Go A H1 H → H D = some (.lst ys) → ys.length = n → (∀ i y, ys[i]? = some y → P H i y) → Qd H) :
    ∃ W : Nat → Nat → Hp → Prop, (∃ m, W 0 m (upd H1 D (.lst []))) ∧ ∀ i m H, W i m H →
      (J.stop i H ∧ Qd H) ∨ (J.go i H ∧ ∃ Nx : Hp → Prop, (∀ H', Nx H' → ∃ m', m' < m ∧ W (i + 1) m' H') ∧ ∀ x H', J.yld i H x H' → g x (wipe σ vs) H' fun σ2 H2 => wipe σ2 vs = wipe σ vs ∧ tYes σ2 H2 fun b H3 =>
        if b = true then te σ2 H3 fun y H4 => ∃ acc, H4 D = some (.lst acc) ∧ acc.length < sizeLine ∧ Nx (upd H4 D (.lst (acc ++ [y]))) else Nx H3) :=
  lcm w (kept_go d nD) P (fun _ _ _ _ iv g => pt _ _ _ _ (g.tk iv.2)) (fun _ _ _ _ _ _ e => pt _ _ _ _ (TK.set e rfl)) hn hG hs hd
end
theorem Go.sm {A : Addr} {H H' H'' : Hp} (g : Go A H H') (s : Same H' H'') : Go A H H'' := g.same s
theorem range_fm {α β : Type} (xs : List α) (f : α → Option β) : (List.range xs.length).filterMap (fun i => (xs[i]?).bind f) = xs.filterMap f := by
  have h : ∀ (xs : List α) (f : Nat → Option β) (g : α → Option β), (∀ i x, xs[i]? = some x → f i = g x) → (List.range xs.length).filterMap f = xs.filterMap g := fun xs => by
    induction xs with
    | nil => intro f g _; rfl
    | cons x r ih =>
      intro f g h
      rw [List.length_cons, List.range_succ_eq_map, List.filterMap_cons, List.filterMap_map, List.filterMap_cons, h 0 x rfl, ih (f ∘ Nat.succ) g (fun i z hz => h (i + 1) z hz)]
  exact h xs _ f fun i x e => by rw [e]; rfl
end FS
set_option Elab.async false
set_option linter.all false
set_option maxRecDepth 100000
set_option maxHeartbeats 6400000
/-! set(a list of texts) -/
namespace FS
open PySem PySem.Spec PyProof.Rows L2
theorem SetS.kept {w : World} {h h' : Heap} {a : Addr} {xs : List Str} (R : SetS w h a xs) (k : ∀ o, h.get? a = some o → h'.get? a = some o) : SetS w h' a xs := by
  obtain ⟨o, ms, ep, t, ho, r⟩ := R
  exact ⟨o, ms, ep, t, k o ho, r⟩
section
variable {P : Program} {w : World} {A : Around} {E : Value → Shared → Prop} {s : Shared}
/-- the loop that fills it -/
theorem fill {I : Addr} {fp wr : List Addr} {G : Array GenState → Array GenState → Prop} {n : Nat} {Pv : Nat → Value → Prop} {St : Nat → Shared → Prop} {R : Result → Shared → Prop}
    (W : WalksS P w A.in1 I fp wr G n Pv St) (S : Addr) (hSf : S ∉ fp) (ks : List Str) (hn : n = ks.length) (room : ks.length + 1 < scanBound) (hval : ∀ i v, Pv i v → ∃ z t, ks[i]? = some z ∧ v = .str z t)
    (h0 : Heap) (hS0 : h0.get? S = none) (hw0 : ∀ b ∈ wr, h0.get? b = none) :
    ∀ (k i : Nat) (s : Shared), n - i = k → i ≤ n → St i s → (∀ b o, h0.get? b = some o → s.heap.get? b = some o) → SetS w s.heap S (uniq (ks.take i)) →
      (∀ s', Moved (S :: wr) G s s' → SetS w s'.heap S (uniq ks) → (∀ b o, h0.get? b = some o → s'.heap.get? b = some o) → R (.ok (.ret .none)) s') →
      codeAny (model P w) A (.builtin "set.update.loop" ⟨[.ref S, .ref I], []⟩) R s := by
  have hSw : S ∉ wr := fun h => hSf (W.sub _ h)
  have hsub : ∀ b ∈ wr, b ∈ S :: wr := fun b hb => List.mem_cons_of_mem _ hb
  have keepM : ∀ {s s' : Shared}, Moved wr G s s' → (∀ b o, h0.get? b = some o → s.heap.get? b = some o) → ∀ b o, h0.get? b = some o → s'.heap.get? b = some o := fun hm hkp b o e =>
    hm.heap b o (fun hb => by rw [hw0 b hb] at e; cases e) (hkp b o e)
  intro k
  induction k with
  | zero =>
    intro i s hk' hi hst hkp hS hR
    have hin : i = n := by omega
    subst hin
    refine codeAny_builtin PyProof.Rows.F.entry_set_update_loop ?_
    rw [Around.under_plainId PyProof.Rows.F.plain_set_update_loop _]
    show wpAny _ A.in1 (pyNext (.ref I) >>= _) _ _ s
    refine wpAny_bind (W.done s _ _ hst fun s' hm => ?_)
    show wpAny _ A.in1 (ret Value.none) _ _ s'
    have hkp' := keepM hm hkp
    rw [hn, List.take_length] at hS
    exact wpAny_pure (hR s' (hm.mono hsub) (hS.kept fun o e => hm.heap S o hSw e) hkp')
  | succ k ih =>
    intro i s hk' hi hst hkp hS hR
    have hlt : i < n := by omega
    refine codeAny_builtin PyProof.Rows.F.entry_set_update_loop ?_
    rw [Around.under_plainId PyProof.Rows.F.plain_set_update_loop _]
    show wpAny _ A.in1 (pyNext (.ref I) >>= _) _ _ s
    refine wpAny_bind (W.item i s _ _ hlt hst fun v s' hP hst' hm => ?_)
    obtain ⟨z, tk, hz, rfl⟩ := hval i v hP
    have hkp' := keepM hm hkp
    have hS' := hS.kept fun o e => hm.heap S o hSw e
    show wpAny _ A.in1 (holding [Value.str z tk] (setAdd S (.str z tk)) >>= _) _ _ s'
    refine wpAny_bind (wpAny_holding ?_)
    unfold setAdd
    refine wpAny_holding ?_
    refine wpAny_bind ((strKind P w).pyHash (strKind_is P w z tk) ?_)
    have rm : (uniq (ks.take i)).length + 1 < scanBound := by
      have h1 := uniq_len (ks.take i)
      rw [List.length_take] at h1
      omega
    refine put1 (s := { s' with toks := s'.toks + 1 }) hS' rm fun h' hsb hS2 b => ?_
    have hS3 : SetS w h' S (uniq (ks.take (i + 1))) := by
      rw [take_more hz, uniq_more]
      exact hS2
    have hkp2 : ∀ b o, h0.get? b = some o → h'.get? b = some o := fun b o e => (hsb.2 b (fun z => by rw [z, hS0] at e; cases e)).trans (hkp' b o e)
    refine wpAny_pure ⟨plainId_quiet PyProof.Rows.F.plain_set_update_loop _, ih (i + 1) _ (by omega) hlt (W.frame _ s' _ _ hst' (Nat.le_add_right _ _) fun b hb o e => ?_) hkp2 hS3 fun s'' hm'' hS'' hkp'' => ?_⟩
    · rw [hsb.2 b (fun h : b = S => hSf (by rw [← h]; exact hb))]; exact e
    · refine hR s'' (Moved.trans W.gtrans ((hm.mono hsub).then_heap (Nat.le_add_right _ _) fun b o hb e => ?_) hm'') hS'' hkp''
      rw [hsb.2 b (fun h : b = S => hb (by rw [h]; exact List.mem_cons_self))]; exact e
theorem none_at {h : Heap} {b : Addr} (hb : h.objs.size ≤ b) : h.get? b = none := by
  cases q : h.get? b with
  | none => rfl
  | some o => exact absurd (Nat.lt_of_lt_of_le (Heap.lt_size q) hb) (Nat.lt_irrefl _)
theorem made {l : Addr} {items : Array Value} {ks : List Str} {Q : Value → Shared → Prop} (hh : A.handled = none) (hl : s.heap.IsList l items) (hit : StrsAre items.toList ks) (room : ks.length + 1 < scanBound)
    (h : ∀ (h' : Heap) (tk : Nat), SetS w h' s.heap.objs.size (uniq ks) → (∀ b o, s.heap.get? b = some o → h'.get? b = some o) → Q (.ref s.heap.objs.size) { s with heap := h', toks := tk }) :
    wpAny (model P w) A (call (.type "set") [.ref l]) Q E s := by
  have hisz : items.size = ks.length := by
    rw [← Array.length_toList, ← hit.strs, List.length_map]
  obtain ⟨c, tl, hmro⟩ := PySem.F.called_set.mro
  have hmade := PySem.F.called_set.made
  have hsub := PySem.F.called_set.sub
  refine wpAny_call (codeAny_of_tree ?_)
  show wpAny _ _ (callAny (.type "set") _) _ _ _
  refine wpAny_pure ⟨Code.quiet_builtin _ (by decide +kernel), codeAny_builtin PySem.F.entry_type_call ?_⟩
  rw [Around.under_plain (weight_type_call_type "set" [.ref l] []) rfl]
  have h1 := PySem.F.called_set.notType
  have h2 := PySem.F.called_set.canCreate
  have hct := PySem.F.typeCall_set_1 (.ref l)
  repeat (any_goals (first | assumption | wp_step))
  refine codeAny_mono (L2.code_set_led1 (.ref l) (E := E) (Q₁ := fun obj s₁ => obj = .ref s.heap.objs.size ∧ s₁ = { s with heap := s.heap.push { cls := .type "set", dict := none, data := .set #[] 0 (.fresh 0 0 (!w.params.followText "set-order")) } }) ⟨rfl, rfl⟩) fun r s₁ hr => ?_
  cases r with
  | error e => exact hr
  | ok fl =>
    cases fl with
    | ret obj =>
      obtain ⟨rfl, rfl⟩ := hr
      have R0 : SetS w (s.heap.push { cls := .type "set", dict := none, data := .set #[] 0 (.fresh 0 0 (!w.params.followText "set-order")) }) s.heap.objs.size [] := SetS.new w
      have hS : (s.heap.push { cls := .type "set", dict := none, data := .set #[] 0 (.fresh 0 0 (!w.params.followText "set-order")) }).get? s.heap.objs.size = some { cls := .type "set", dict := none, data := .set #[] 0 (.fresh 0 0 (!w.params.followText "set-order")) } := Heap.get?_push_size _ rfl
      have hT : Shared.TypeIs { s with heap := s.heap.push { cls := .type "set", dict := none, data := .set #[] 0 (.fresh 0 0 (!w.params.followText "set-order")) } } (.ref s.heap.objs.size) "set" := ⟨_, hS, rfl⟩
      have hli := PySem.F.called_set.init.lookup
      have hbi := PySem.F.called_set.init.bind (.ref s.heap.objs.size)
      repeat (any_goals (first | assumption | wp_step))
      refine codeAny_mono (codeAny_call_builtin (R := wants (fun r s₂ => r = .none ∧ ∃ h' tk, s₂ = { s with heap := h', toks := tk } ∧ SetS w h' s.heap.objs.size (uniq ks) ∧
          (∀ b o, s.heap.get? b = some o → h'.get? b = some o)) E) PySem.F.called_set.init.plain PySem.F.entry_set_init (check_set_init_1 hT ?_)) fun r₂ s₂ hr₂ => ?_
      · obtain ⟨ol, hol, hcl, nl, hdl⟩ := hl
        obtain ⟨ocls, odict, odata, oslots⟩ := ol
        simp only at hcl hdl
        subst hcl; subst hdl
        have hol' : (s.heap.push { cls := .type "set", dict := none, data := .set #[] 0 (.fresh 0 0 (!w.params.followText "set-order")) }).get? l = some { cls := .type "list", dict := odict, data := .seq items nl, slots := oslots } := Heap.get?_push_of_some _ hol
        have hsls := PySem.F.sub_list_set
        have hslf := PySem.F.sub_list_frozenset
        have hne : (Value.type "list" == Value.type "dict") = false := by decide
        have hl1 : (s.heap.push { cls := .type "set", dict := none, data := .set #[] 0 (.fresh 0 0 (!w.params.followText "set-order")) }).IsList l items := ⟨_, hol', rfl, nl, rfl⟩
        unfold Builtin.«set.__init__» noKeywords Builtin.Frozenset.updateFrom
        generalize hPI : pyIter = PI
        wp_walk
        subst hPI
        refine wpAny_pyIter_list hl1 ?_
        refine wpAny_bind (wpAny_runValue ?_)
        have hlS : l < s.heap.objs.size := Heap.lt_size hol
        have hh3 : A.in1.in1.in1.handled = none := by simp [hh]
        have hneI : l ≠ (s.heap.push { cls := .type "set", dict := none, data := .set #[] 0 (.fresh 0 0 (!w.params.followText "set-order")) }).objs.size := by
          rw [Heap.size_push]; exact Nat.ne_of_lt (Nat.lt_succ_of_lt hlS)
        have hSf : s.heap.objs.size ∉ [(s.heap.push { cls := .type "set", dict := none, data := .set #[] 0 (.fresh 0 0 (!w.params.followText "set-order")) }).objs.size, l] := by
          rw [Heap.size_push]; simp only [List.mem_cons, List.not_mem_nil, or_false, not_or]
          exact ⟨Nat.ne_of_lt (Nat.lt_succ_self _), Nat.ne_of_gt hlS⟩
        have hval : ∀ (i : Nat) (v : Value), items[i]? = some v → ∃ z t, ks[i]? = some z ∧ v = .str z t := fun i v hv => by
          have q : items.toList[i]? = some v := by rw [Array.getElem?_toList]; exact hv
          obtain ⟨x, t, rfl⟩ := hit.all v (List.mem_of_getElem? q)
          refine ⟨x, t, ?_, rfl⟩
          rw [← hit.strs, List.getElem?_map, q]
          rfl
        refine fill ((Walks.list hh3 _ l hneI items).toS) s.heap.objs.size hSf ks hisz room hval s.heap (none_at (Nat.le_refl _)) (fun b hb => none_at (by
            rw [List.mem_singleton.mp hb, Heap.size_push]
            exact Nat.le_succ _)) (items.size - 0) 0 _ (by omega) (Nat.zero_le _)
          ⟨⟨_, Heap.get?_push_size _ rfl, rfl, rfl⟩, (hl1.push _)⟩ (fun b o e => Heap.get?_push_of_some _ (Heap.get?_push_of_some _ e)) ?hS0 ?hR
        case hS0 => exact R0.kept fun o e => Heap.get?_push_of_some _ e
        case hR =>
          intro s' hm hS' hkp
          obtain ⟨h', g2, d', tk', os'⟩ := s'
          have eg : g2 = s.gens := hm.gens
          have ed : d' = s.drawn := hm.drawn
          have eo : os' = s.os := hm.os
          subst eg; subst ed; subst eo
          show wpAny _ _ _ _ _ _
          refine wpAny_pure ?_
          show wpAny _ _ (ret Value.none) _ _ _
          exact wpAny_pure ⟨rfl, h', tk', rfl, hS', hkp⟩
      · cases r₂ with
        | error e => exact hr₂
        | ok fl₂ =>
          cases fl₂ with
          | ret r =>
            obtain ⟨rfl, h', tk, rfl, hS', hk'⟩ := hr₂
            repeat (any_goals (first | assumption | wp_step))
            exact h _ _ hS' hk'
          | _ => exact hr₂.elim
    | _ => exact hr.elim
end
end FS
set_option Elab.async false
set_option linter.all false
set_option maxRecDepth 100000
set_option maxHeartbeats 4000000
namespace FS
open PySem PySem.Spec PyProof.Rows L2
structure PrG (P : Program) (w : World) (K : PySem.W.Frag) (mg : Str → Option Value) (base : Heap) (C : Addr) : Prop where
  c : PrC K mg C
  n : NoP K C
  init : ∃ f fd, FnOk P w K mg base CX0 9 f fd ["self", "name", "parameters", "body"] (spInit K C) ∧ Binds K fd ["self", "name", "parameters", "body"] [] ∧ Mk K C f
  len : ∃ f fd, FnOk P w K mg base CX0 1 f fd ["self"] (spLen K C) ∧ Binds K fd ["self"] [] ∧ PySem.W.findIn K (.ref C) "__len__" = some (some (.ref f)) ∧ PySem.W.isFn K (.ref f) = true
  eq : ∃ f fd, FnOk P w K mg base CX0 1 f fd ["self", "other"] (spEqT K C) ∧ Binds K fd ["self", "other"] [] ∧ PySem.W.findIn K (.ref C) "__eq__" = some (some (.ref f)) ∧ PySem.W.isFn K (.ref f) = true
  ne : PySem.W.findIn K (.ref C) "__ne__" = some (some (.builtin "object.__ne__"))
  str : ∃ f fd, FnOk P w K mg base CX0 1 f fd ["self"] (spStr K C) ∧ Binds K fd ["self"] [] ∧ PySem.W.findIn K (.ref C) "__str__" = some (some (.ref f)) ∧ PySem.W.isFn K (.ref f) = true
/-- a property -/
structure PrP (P : Program) (w : World) (K : PySem.W.Frag) (mg : Str → Option Value) (base : Heap) (C : Addr) (x g : Str) : Prop where
  ex : ∃ p f fd, PropOf K C x p f ∧ FnOk P w K mg base CX0 1 f fd ["self"] (spGet K C g) ∧ Binds K fd ["self"] []
section
variable {X : Cx} {C : Addr} {e : Expr} {es : List Expr} {ta : TE} {t : TA} {x g : Str} {p pos : Pos}
theorem pe_pr (R : PrP X.prog X.w X.K X.mg X.base C x g) (c : Cls X.K C) (hr : Room 2 X.A) (he : PE X e ta) (hab : attributeBase e x X.env (eval e X.env) = eval e X.env) : PE X (.Attribute e x pos) (tProp C (spGet X.K C g) [] E0 ta) := by
  obtain ⟨q, f, fd, h1, h2, h3⟩ := R.ex
  exact pe_prop he c h1 h2 hr h3 .nil pass0 hab
theorem pe_mkP (G : PrG X.prog X.w X.K X.mg X.base C) (hr : Room 10 X.A) (hg : Gl X "Procedure") (ha : PA X (e :: es) t) (he : starEach (e :: es) X.env = (false, eval e X.env) :: starEach es X.env := by rfl) (hpl : (backTo pos (starEach es X.env)).any (·.1) = false := by rfl) :
    PE X (.Call (.Name "Procedure" p) (e :: es) [] pos) (tMake C (spInit X.K C) [] E0 t) := by
  obtain ⟨f, fd, h1, h2, h3⟩ := G.init
  exact pe_make h3 h1 hr hg G.c.gC h2 .nil pass0 ha (by decide) he hpl
end
def spRight : Sp := fun vs H Q _ => ∃ (a : Addr), vs = [.ref a] ∧ Die H a ∧ ∀ H', Go a H H' → Q (.bl true) H'
def spLaw (K : PySem.W.Frag) : Sp := fun vs H Q _ => ∃ (a : Addr) (ns : List Int), vs = [.ref a] ∧ SqL K H a (ns.map V.int) ∧ ns.length ≤ 63 ∧ ∀ H', Q (.bl true) H'
end FS
set_option Elab.async false
set_option linter.all false
set_option maxRecDepth 100000
set_option maxHeartbeats 4000000
namespace FS
open PySem PySem.Spec PyProof.Rows L2
theorem lay_pars {own : List (Str × Bool)} (po : ParOk own) : PyData.canLay0 (parsD own) = true := lay_all _ fun d hd => by
  obtain ⟨p, hp, rfl⟩ := List.mem_map.mp hd
  show (PyData.strOk p.1 && (PyData.strOk (kd p.2) && true)) = true
  rw [(word_ok (po.nms p hp)).1]
  cases p.2 <;> decide +kernel
theorem shaped_of {d : PyData} (h1 : d.canLay0 = true) (h2 : d.depth ≤ 64) : SeqAt.shaped d = true := by
  unfold SeqAt.shaped
  rw [h1, decide_eq_true h2]
  rfl
def triD (nm : Str) (own : List (Str × Bool)) (t : Tm) : PyData := .tuple [.str nm, parsD own, t.data]
theorem tri_eqv (a b : Str) (o o' : List (Str × Bool)) (t t' : Tm) : PyData.eqv (triD a o t) (triD b o' t') = (a == b && PyData.eqv (parsD o) (parsD o') && PyData.eqv t.data t'.data) := by
  show ((a == b) && (PyData.eqv (parsD o) (parsD o') && (PyData.eqv t.data t'.data && true))) = _
  rw [Bool.and_true, Bool.and_assoc]
theorem same_eqv {a : Str} {o : List (Str × Bool)} {t : Tm} (po : ParOk o) (g : Good o t) : (a == a && PyData.eqv (parsD o) (parsD o) && PyData.eqv t.data t.data) = true := by
  rw [beq_self_eq_true, SeqAt.eqv_refl _ (lay_pars po), SeqAt.eqv_refl _ (g.lay po.nms)]
  rfl
/-- its words are words -/
theorem all_good {own : List (Str × Bool)} {t : Tm} (g : Good own t) : ∀ u ∈ t.all, Good own u := by
  induction g with
  | @mk h ks ok kk kids ih =>
    have al : ∀ l : List Tm, (∀ t ∈ l, t ∈ ks) → ∀ u ∈ alls l, Good own u := fun l => by
      induction l with
      | nil => intro _ u hu; cases hu
      | cons x r ihl =>
        intro hs u hu
        rcases List.mem_append.mp hu with h1 | h1
        · exact ih x (hs x List.mem_cons_self) u h1
        · exact ihl (fun t ht => hs t (List.mem_cons_of_mem _ ht)) u h1
    intro u hu
    rcases List.mem_cons.mp hu with rfl | hu
    · exact .mk ok kk kids
    · exact al ks (fun _ h => h) u hu
theorem Ranks.mem {l ys : List Str} (r : Ranks l ys) {z : Str} (h : z ∈ ys) : z ∈ l := uniq_mem.mp (r.1.mem_iff.mp h)
theorem PAt.ins {K : PySem.W.Frag} {C : Addr} {H : Hp} {a : Addr} {nm : Str} {own : List (Str × Bool)} {t : Tm} (p : PAt K C H a nm own t) : ∃ dx fs, H a = some (.ins C dx fs) := by
  obtain ⟨⟨dx, pv, bv, pa, ka, wa, ua, xs, ws, us, h1, _⟩, _⟩ := p
  exact ⟨_, _, h1⟩
theorem PAt.go {K : PySem.W.Frag} {C : Addr} {H H' : Hp} {D a : Addr} {nm : Str} {own : List (Str × Bool)} {t : Tm} (d : Die H D) (g : Go D H H') (p : PAt K C H a nm own t) : PAt K C H' a nm own t := by
  obtain ⟨⟨dx, pv, bv, pa, ka, wa, ua, xs, ws, us, h1, h2, h3, h4, h5, h6, h7, h8, h9, h10⟩, b, c, dd, e, f, gg⟩ := p
  have k := g.tk d
  obtain ⟨x, y, w', q⟩ := d
  have n1 : a ≠ D := fun z => by
    rw [z, q] at h1
    cases h1
  have n2 : pa ≠ D := fun z => by
    rw [z, q] at h4
    have e4 := HO.lst.inj (Option.some.inj h4)
    rw [all_eq] at h5
    cases h5 with
    | cons hd tl =>
      have e5 := (List.cons.inj e4).1
      obtain ⟨hh, kk⟩ := t
      obtain ⟨aa, _, _, ee, _⟩ := tm_open hd
      rw [ee] at e5
      cases e5
  exact ⟨⟨dx, pv, bv, pa, ka, wa, ua, xs, ws, us, g.1 _ _ n1 h1, Dp.tk k (pars_noL own) h2, Dp.tk k t.noL h3, g.1 _ _ n2 h4, DpAll.tk k (noL_datas _) h5, Dp.tk k (kindD_noL _) h6, Dp.tk k (strs_noL _) h7, Dp.tk k (strs_noL _) h8, h9, h10⟩, b, c, dd, e, f, gg⟩
end FS
namespace FS
open PySem PySem.Spec PyProof.Rows L2
theorem kit_self {K : PySem.W.Frag} {C : Addr} : PySem.W.kitOne K (.ref C) (.ref C) = some true := by
  unfold PySem.W.kitOne
  rw [if_pos (by simp)]
theorem kit_own {K : PySem.W.Frag} {C : Addr} {T : String} (h1 : PySem.W.isClsIn K C = true) (h2 : PySem.W.typeIn K (.ref C) = some (.type "type")) (h3 : PySem.W.subIn K (.type T) (.ref C) = some false) : PySem.W.kitOne K (.type T) (.ref C) = some false := by
  unfold PySem.W.kitOne
  rw [if_neg (by simp)]
  have e2 : ((PySem.W.clsIn K C).isSome && PySem.W.typeIn K (.ref C) == some (.type "type")) = true := by
    have h1' : (PySem.W.clsIn K C).isSome = true := h1
    rw [h1', h2] <;> rfl
  show (if ((PySem.W.clsIn K C).isSome && PySem.W.typeIn K (.ref C) == some (.type "type")) = true then PySem.W.subIn K (.type T) (.ref C) else none) = some false
  rw [if_pos e2]
  exact h3
end FS
set_option Elab.async false
set_option linter.all false
set_option maxRecDepth 100000
set_option maxHeartbeats 4000000
/-! programs: promises -/
namespace FS
open PySem PySem.Spec PyProof.Rows L2
def spKindsOf (K : PySem.W.Frag) : Sp := fun vs H Q _ => ∃ (p : Addr) (xs : List V) (us : List Tm) (own : List (Str × Bool)), vs = [.ref p] ∧ SqT K H p xs ∧ DpAll K H xs (datas us) ∧ (∀ u ∈ us, Good own u ∧ u.deep ≤ 6) ∧ ParOk own ∧ us.length ≤ 100 ∧ ∀ H' q, Same H H' → H' q = some (.tup ((us.map Tm.isW).map fun b => V.str (kd b))) → Q (.ref q) H'
/-- procedures, in a tuple -/
inductive PsAt (K : PySem.W.Frag) (C : Addr) (H : Hp) : List V → List RowU → Prop
  | nil : PsAt K C H [] []
  | cons {a : Addr} {u : RowU} {xs : List V} {us : List RowU} (h : PAt K C H a u.1 u.2.1 u.2.2) (k : PsAt K C H xs us) : PsAt K C H (.ref a :: xs) (u :: us)
theorem PsAt.same {K : PySem.W.Frag} {C : Addr} {H H' : Hp} {xs : List V} {us : List RowU} (x : PsAt K C H xs us) (s : Same H H') : PsAt K C H' xs us := by
  induction x with
  | nil => exact .nil
  | cons h _ ih => exact .cons (h.same s) ih
theorem PsAt.len {K : PySem.W.Frag} {C : Addr} {H : Hp} {xs : List V} {us : List RowU} (x : PsAt K C H xs us) : xs.length = us.length := by
  induction x with
  | nil => rfl
  | cons _ _ ih => rw [List.length_cons, List.length_cons, ih]
theorem PsAt.get {K : PySem.W.Frag} {C : Addr} {H : Hp} {xs : List V} {us : List RowU} (x : PsAt K C H xs us) {i : Nat} {v : V} (e : xs[i]? = some v) : ∃ a u, v = .ref a ∧ us[i]? = some u ∧ PAt K C H a u.1 u.2.1 u.2.2 := by
  induction x generalizing i with
  | nil => cases e
  | @cons a u xs us h k ih =>
    cases i with
    | zero => cases e; exact ⟨a, u, rfl, rfl, h⟩
    | succ i => exact ih e
theorem kd_ok (b : Bool) : PyData.strOk (kd b) = true := by cases b <;> decide +kernel
theorem kinds_eq (bs : List Bool) : kindsD bs = .tuple ((bs.map kd).map PyData.str) := by
  unfold kindsD
  rw [List.map_map]
  rfl
theorem kindD_eq (own : List (Str × Bool)) : kindD own = kindsD (own.map (·.2)) := by
  unfold kindD kindsD
  rw [List.map_map]
  rfl
theorem kinds_lay (bs : List Bool) : (kindsD bs).canLay0 = true := by
  rw [kinds_eq]
  exact (strs_lay (bs.map kd) fun z hz => by
    obtain ⟨b, _, rfl⟩ := List.mem_map.mp hz
    exact kd_ok b).1
theorem kinds_shaped (bs : List Bool) : SeqAt.shaped (kindsD bs) = true := by
  unfold SeqAt.shaped
  rw [kinds_lay, decide_eq_true (show PyData.depth (kindsD bs) ≤ 64 by
    rw [kinds_eq]
    have h := (strs_lay (bs.map kd) fun z hz => by
      obtain ⟨b, _, rfl⟩ := List.mem_map.mp hz
      exact kd_ok b).2
    show PyData.depthAll _ + 1 ≤ 64
    omega)]
  rfl
theorem dp_kinds {K : PySem.W.Frag} {H : Hp} {p : Addr} {bs : List Bool} (h : H p = some (.tup (bs.map fun b => V.str (kd b)))) : Dp K H (.ref p) (kindsD bs) := by
  refine .tup (.inl (.inl h)) ?_
  clear h
  induction bs with
  | nil => exact .nil
  | cons b r ih => exact .cons (.str _) ih
theorem dp_kindsT {K : PySem.W.Frag} {H : Hp} {p : Addr} {bs : List Bool} (h : SqT K H p (bs.map fun b => V.str (kd b))) : Dp K H (.ref p) (kindsD bs) := by
  refine .tup h ?_
  clear h
  induction bs with
  | nil => exact .nil
  | cons b r ih => exact .cons (.str _) ih
/-- the dict from names to kinds -/
inductive KV (K : PySem.W.Frag) (H : Hp) : List (Key × V) → List RowU → Prop
  | nil : KV K H [] []
  | cons {v : V} {u : RowU} {kvs : List (Key × V)} {us : List RowU} (h : Dp K H v (kindD u.2.1)) (r : KV K H kvs us) : KV K H ((Sum.inr u.1, v) :: kvs) (u :: us)
theorem KV.tk {K : PySem.W.Frag} {H H' : Hp} (e : TK H H') {kvs : List (Key × V)} {us : List RowU} (t : KV K H kvs us) : KV K H' kvs us := by
  induction t with
  | nil => exact .nil
  | cons h _ ih => exact .cons (Dp.tk e (kindD_noL _) h) ih
theorem KV.app {K : PySem.W.Frag} {H : Hp} {kvs : List (Key × V)} {us : List RowU} (t : KV K H kvs us) {v : V} {u : RowU} (h : Dp K H v (kindD u.2.1)) : KV K H (kvs ++ [(Sum.inr u.1, v)]) (us ++ [u]) := by
  induction t with
  | nil => exact .cons h .nil
  | cons h' _ ih => exact .cons h' ih
theorem KV.keys {K : PySem.W.Frag} {H : Hp} {kvs : List (Key × V)} {us : List RowU} (t : KV K H kvs us) : kvs.map (·.1) = (us.map (·.1)).map Sum.inr := by
  induction t with
  | nil => rfl
  | cons h r ih => rw [List.map_cons, ih]; rfl
theorem KV.get {K : PySem.W.Frag} {H : Hp} {kvs : List (Key × V)} {us : List RowU} (t : KV K H kvs us) {x : Str} {o : List (Str × Bool)} (h : (us.map fun u => (u.1, u.2.1)).lookup x = some o) : ∃ v, valV kvs (Sum.inr x) = some v ∧ Dp K H v (kindD o) := by
  induction t with
  | nil => cases h
  | @cons v u kvs us hd r ih =>
    rw [List.map_cons] at h
    simp only [List.lookup] at h
    by_cases e : u.1 = x
    · have eb : (x == u.1) = true := by rw [e]; exact beq_self_eq_true x
      rw [eb] at h
      cases Option.some.inj h
      exact ⟨v, valV_pos (by rw [e]), hd⟩
    · have eb : (x == u.1) = false := by simpa using fun z : x = u.1 => e z.symm
      rw [eb] at h
      obtain ⟨v2, h1, h2⟩ := ih h
      exact ⟨v2, by rw [valV_neg (fun z => e (Sum.inr.inj z))]; exact h1, h2⟩
def wrapsIn (us : List RowU) : Bool := us.any fun u => u.2.1.any (·.2)
def spHave (K : PySem.W.Frag) (C : Addr) : Sp := fun vs H Q _ => ∃ (p : Addr) (xs : List V) (us : List RowU), vs = [.ref p] ∧ SqT K H p xs ∧ PsAt K C H xs us ∧ us.length ≤ 8 ∧ ∀ H', Same H H' → Q (.bl (wrapsIn us)) H'
theorem wrap_in (own : List (Str × Bool)) : decide (("wrap" : Str) ∈ own.map fun p => kd p.2) = own.any (·.2) := by
  induction own with
  | nil => rfl
  | cons p r ih =>
    rw [List.map_cons, List.any_cons, ← ih]
    cases hb : p.2 with
    | true => simp [kd]
    | false =>
      have : ("wrap" : Str) ≠ kd false := by decide +kernel
      simp [this]
theorem pe_prK {X : Cx} {P : Program} {w : World} {K : PySem.W.Frag} {mg : Str → Option Value} {base : Heap} {C : Addr} {x g : Str} {e : Expr} {ta : TE} {pos : Pos} (R : PrP P w K mg base C x g) (h1 : X.prog = P) (h2 : X.w = w) (h3 : X.K = K) (h4 : X.mg = mg) (h5 : X.base = base) (c : Cls K C) (hr : Room 2 X.A) (he : PE X e ta) (hab : attributeBase e x X.env (eval e X.env) = eval e X.env) : PE X (.Attribute e x pos) (tProp C (spGet K C g) [] E0 ta) := by
  subst h1 h2 h3 h4 h5
  exact pe_pr R c hr he hab
structure NmP (mg : Str → Option Value) : Prop where
  b_any : mg "any" = none
  g_MAX_PROCEDURES : ∃ t, mg "MAX_PROCEDURES" = some (.int 8 t)
  g_MAX_MODES_WITH_WRAPS : ∃ t, mg "MAX_MODES_WITH_WRAPS" = some (.int 2 t)
theorem putK_new {kvs : List (Key × V)} {k : Key} {v : V} (h : k ∉ kvs.map (·.1)) : putK kvs k v = kvs ++ [(k, v)] := by
  unfold putK
  by_cases e : (kvs.any fun kv => decide (kv.1 = k)) = true
  · obtain ⟨kv, hkv, hx⟩ := List.any_eq_true.mp e
    exact absurd (List.mem_map.mpr ⟨kv, hkv, of_decide_eq_true hx⟩) h
  · rw [if_neg e]
theorem inr_mem {x : Str} {l : List Str} (h : (Sum.inr x : Key) ∈ l.map Sum.inr) : x ∈ l := by
  obtain ⟨z, hz, e⟩ := List.mem_map.mp h
  rw [← Sum.inr.inj e]
  exact hz
theorem KV.put {K : PySem.W.Frag} {H : Hp} {kvs : List (Key × V)} {us : List RowU} (t : KV K H kvs us) {v : V} {u : RowU} (h : Dp K H v (kindD u.2.1)) (n : u.1 ∉ us.map (·.1)) : KV K H (putK kvs (Sum.inr u.1) v) (us ++ [u]) := by
  rw [putK_new (fun z => n (by rw [t.keys] at z; exact inr_mem z))]
  exact t.app h
theorem KV.len {K : PySem.W.Frag} {H : Hp} {kvs : List (Key × V)} {us : List RowU} (t : KV K H kvs us) : kvs.length = us.length := by
  induction t with
  | nil => rfl
  | cons _ _ ih => rw [List.length_cons, List.length_cons, ih]
theorem fresh_u {us : List RowU} {i : Nat} {u : RowU} (n : (us.map (·.1)).Nodup) (h : us[i]? = some u) : u.1 ∉ (us.take i).map (·.1) := fun hm => by
  have hw : us.take (i + 1) = us.take i ++ [u] := take_more h
  have := n.sublist ((List.take_sublist (i + 1) us).map (fun z : RowU => z.1))
  rw [hw, List.map_append] at this
  exact (List.nodup_append.mp this).2.2 _ hm _ List.mem_cons_self rfl
theorem call_isiK {X : Cx} {K : PySem.W.Frag} (h : X.K = K) : CallR X (.builtin "isinstance") (rIsi K) := by
  subst h
  exact call_isi
theorem wk_tup {K : PySem.W.Frag} {a : Addr} {xs : List V} {H0 : Hp} {Qd : Hp → Prop} {B : V → Hp → (Hp → Prop) → Prop} (Pv : Nat → Hp → Prop) (h0 : Pv 0 H0) (hl : ∀ i H, i ≤ xs.length → Pv i H → SqT K H a xs) (hs : ∀ i x H, xs[i]? = some x → Pv i H → B x H (Pv (i + 1))) (hd : ∀ H, Pv xs.length H → Qd H) :
    ∃ W : Nat → Nat → Hp → Prop, (∃ m, W 0 m H0) ∧ ∀ i m H, W i m H → ((Itt K a).stop i H ∧ Qd H) ∨ ((Itt K a).go i H ∧ ∃ Nx : Hp → Prop, (∀ H', Nx H' → ∃ m', m' < m ∧ W (i + 1) m' H') ∧ ∀ x H', (Itt K a).yld i H x H' → B x H' Nx) := by
  refine ⟨fun i m H => i ≤ xs.length ∧ m = xs.length - i ∧ Pv i H, ⟨_, Nat.zero_le _, rfl, h0⟩, fun i m H ⟨hi, hm, p⟩ => ?_⟩
  have sq := hl i H hi p
  by_cases l : i < xs.length
  · refine .inr ⟨⟨xs, xs[i], sq, List.getElem?_eq_getElem l⟩, Pv (i + 1), fun H' h => ⟨xs.length - (i + 1), by omega, l, rfl, h⟩, fun x H' y => ?_⟩
    obtain ⟨rfl, hx⟩ := y
    exact hs i x _ (hx xs sq) p
  · have e : i = xs.length := by omega
    subst e
    exact .inl ⟨⟨xs, sq, Nat.le_refl _⟩, hd H p⟩
theorem wk_list {K : PySem.W.Frag} {a : Addr} {xs : List V} {H0 : Hp} {Qd : Hp → Prop} {B : V → Hp → (Hp → Prop) → Prop} (Pv : Nat → Hp → Prop) (h0 : Pv 0 H0) (hl : ∀ i H, i ≤ xs.length → Pv i H → SqL K H a xs) (hs : ∀ i x H, xs[i]? = some x → Pv i H → B x H (Pv (i + 1))) (hd : ∀ H, Pv xs.length H → Qd H) :
    ∃ W : Nat → Nat → Hp → Prop, (∃ m, W 0 m H0) ∧ ∀ i m H, W i m H → ((Itl K a).stop i H ∧ Qd H) ∨ ((Itl K a).go i H ∧ ∃ Nx : Hp → Prop, (∀ H', Nx H' → ∃ m', m' < m ∧ W (i + 1) m' H') ∧ ∀ x H', (Itl K a).yld i H x H' → B x H' Nx) := by
  refine ⟨fun i m H => i ≤ xs.length ∧ m = xs.length - i ∧ Pv i H, ⟨_, Nat.zero_le _, rfl, h0⟩, fun i m H ⟨hi, hm, p⟩ => ?_⟩
  have sq := hl i H hi p
  by_cases l : i < xs.length
  · refine .inr ⟨⟨xs, xs[i], sq, List.getElem?_eq_getElem l⟩, Pv (i + 1), fun H' h => ⟨xs.length - (i + 1), by omega, l, rfl, h⟩, fun x H' y => ?_⟩
    obtain ⟨rfl, hx⟩ := y
    exact hs i x _ (hx xs sq) p
  · have e : i = xs.length := by omega
    subst e
    exact .inl ⟨⟨xs, sq, Nat.le_refl _⟩, hd H p⟩
theorem kids_few : ∀ ks : List Tm, ks.length ≤ counts ks
  | [] => Nat.zero_le _
  | t :: r => by
    have := kids_few r
    have := count_pos t
    rw [counts_cons, List.length_cons]
    omega
mutual
theorem all_le : ∀ (t : Tm), ∀ u ∈ t.all, u.deep ≤ t.deep ∧ u.count ≤ t.count
  | .mk h ks, u, hu => by
    rcases List.mem_cons.mp (show u ∈ Tm.mk h ks :: alls ks from hu) with rfl | hu
    · exact ⟨Nat.le_refl _, Nat.le_refl _⟩
    · obtain ⟨h1, h2⟩ := alls_le ks u hu
      have e := count_eq (Tm.mk h ks)
      refine ⟨?_, ?_⟩
      · show u.deep ≤ deeps ks + 1
        omega
      · rw [e]
        show u.count ≤ 1 + counts ks
        omega
theorem alls_le : ∀ (ks : List Tm), ∀ u ∈ alls ks, u.deep ≤ deeps ks ∧ u.count ≤ counts ks
  | t :: r, u, hu => by
    rw [counts_cons]
    rcases List.mem_append.mp (show u ∈ t.all ++ alls r from hu) with hu | hu
    · obtain ⟨h1, h2⟩ := all_le t u hu
      refine ⟨?_, by omega⟩
      show u.deep ≤ max t.deep (deeps r)
      omega
    · obtain ⟨h1, h2⟩ := alls_le r u hu
      refine ⟨?_, by omega⟩
      show u.deep ≤ max t.deep (deeps r)
      omega
end
/-- what makes a program -/
structure ProgOk (m : Int) (tb : Tbl) (us : List RowU) : Prop where
  m1 : 1 ≤ m
  m3 : m ≤ 3
  few : us.length ≤ 8
  nd : (us.map (·.1)).Nodup
  main : (us.map fun u => (u.1, u.2.1)).lookup ("main" : Str) = some []
  wr : m = 3 → wrapsIn us = false
  lk : ∀ x o, tb.lookup x = some o → (us.map fun u => (u.1, u.2.1)).lookup x = some o
  fits : ∀ u ∈ us, GF m tb u.2.1 u.2.2
theorem pi_listK {X : Cx} {K : PySem.W.Frag} {tg l : Expr} {tl : TE} (h : X.K = K) (hl : PE X l tl) : PI X tg l (iList K tl) := by
  subst h
  exact pi_list hl
theorem pi_tupK {X : Cx} {K : PySem.W.Frag} {tg l : Expr} {tl : TE} (h : X.K = K) (hl : PE X l tl) : PI X tg l (iTup K tl) := by
  subst h
  exact pi_tup hl
end FS
set_option Elab.async false
set_option linter.all false
set_option maxRecDepth 100000
set_option maxHeartbeats 4000000
/-! the class Program: what stands in the heap -/
namespace FS
open PySem PySem.Spec PyProof.Rows L2
structure PgC (K : PySem.W.Frag) (mg : Str → Option Value) (C : Addr) : Prop where
  cl : Cls K C
  gC : mg "Program" = some (.ref C)
  a1 : NoAttr K C "_modes"
  a2 : NoAttr K C "_procedures"
  a3 : NoAttr K C "_by_name"
  a4 : NoAttr K C "_names"
  a5 : NoAttr K C "_words"
  a6 : NoAttr K C "_has_wraps"
  ha : PySem.W.findIn K (.ref C) "__class__" = some (some (.builtin "object.__class__"))
  hn : PySem.W.specialIn K (.builtin "object.__class__") "__get__" = some (some (.builtin "getset_descriptor.__get__"))
  htk : PySem.W.takesIn K (.builtin "object.__class__") = some true
  hm : PySem.W.mroIn K C (.type "object") = some true
  self : PySem.W.kitOne K (.ref C) (.ref C) = some true
def pgF (m : Int) (pv dv nv wv : Addr) (hb : Bool) : List (Str × V) := [("_modes", .int m), ("_procedures", .ref pv), ("_by_name", .ref dv), ("_names", .ref nv), ("_words", .ref wv), ("_has_wraps", .bl hb)]
section
variable {m : Int} {pv dv nv wv : Addr} {hb : Bool}
theorem gl1 : (pgF m pv dv nv wv hb).lookup ("_modes" : Str) = some (.int m) := lkH
theorem gl2 : (pgF m pv dv nv wv hb).lookup ("_procedures" : Str) = some (.ref pv) := (lkP (by decide +kernel)).trans lkH
end
/-- the dict from names to procedures -/
inductive ByV : List (Key × V) → List V → List RowU → Prop
  | nil : ByV [] [] []
  | cons {u : RowU} {a : Addr} {kvs : List (Key × V)} {xs : List V} {us : List RowU} (r : ByV kvs xs us) : ByV ((Sum.inr u.1, .ref a) :: kvs) (.ref a :: xs) (u :: us)
theorem ByV.get {K : PySem.W.Frag} {C : Addr} {H : Hp} {kvs : List (Key × V)} {xs : List V} {us : List RowU} (t : ByV kvs xs us) (p : PsAt K C H xs us) {x : Str} (h : x ∈ us.map (·.1)) : ∃ b u, u ∈ us ∧ u.1 = x ∧ valV kvs (Sum.inr x) = some (.ref b) ∧ PAt K C H b u.1 u.2.1 u.2.2 := by
  induction t with
  | nil => cases h
  | @cons u a kvs xs us r ih =>
    cases p with
    | cons pa pr =>
      by_cases e : u.1 = x
      · exact ⟨a, u, List.mem_cons_self, e, valV_pos (by rw [e]), pa⟩
      · have h2 : x ∈ us.map (·.1) := by
          rcases List.mem_cons.mp h with z | z
          · exact absurd z.symm e
          · exact z
        obtain ⟨b, v, h3, h4, h5, h6⟩ := ih pr h2
        exact ⟨b, v, List.mem_cons_of_mem _ h3, h4, by rw [valV_neg (fun z => e (Sum.inr.inj z))]; exact h5, h6⟩
def wordsOf (us : List RowU) : List Str := (us.map fun u => u.2.2.all.filterMap wordOf).flatten
/-- the program at a -/
def PgAt (K : PySem.W.Frag) (CP C : Addr) (H : Hp) (a : Addr) (m : Int) (us : List RowU) : Prop :=
  ∃ (dx pv dv nv wv : Addr) (xs : List V) (kvs : List (Key × V)) (ns ws : List Str), H a = some (.ins CP dx (pgF m pv dv nv wv (wrapsIn us))) ∧ SqT K H pv xs ∧ PsAt K C H xs us ∧ us.length ≤ 8 ∧ H dv = some (.dK kvs) ∧ ByV kvs xs us ∧
    Dp K H (.ref nv) (strsD ns) ∧ Ranks (us.map (·.1)) ns ∧ Dp K H (.ref wv) (strsD ws) ∧ Ranks (wordsOf us) ws ∧ 1 ≤ m ∧ m ≤ 3
theorem strs_inv {K : PySem.W.Frag} {H : Hp} : ∀ (ns : List Str) {zs : List V}, DpAll K H zs (ns.map PyData.str) → zs = ns.map V.str
  | [], zs, r => by
    cases r
    rfl
  | n :: l, zs, r => by
    cases r with
    | cons h r =>
      cases Dp.str_inv h
      rw [strs_inv l r]
      rfl
theorem Ranks.miff {l ys : List Str} (r : Ranks l ys) {x : Str} : x ∈ ys ↔ x ∈ l := by
  rw [r.1.mem_iff, uniq_mem]
end FS
set_option Elab.async false
set_option linter.all false
set_option maxRecDepth 100000
set_option maxHeartbeats 4000000
/-! a class held in a name, called with a star -/
namespace FS
open PySem PySem.Spec PyProof.Rows L2 StX
section
variable {X : Cx} {CX : CXT} {k : Nat} {f C : Addr} {sp : Sp} {E : XK} {fe e : Expr} {es : List Expr} {tf : TE} {t : TA} {pos : Pos}
theorem pe_makeV (M : Mk X.K C f) (F : FnR X.prog X.w X.K X.mg X.base CX k f sp) (room : Room (k + 1) X.A) (hx : Passes CX X E) (hf : PE X fe tf) (ha : PA X (e :: es) t)
    (tree : eval (.Call fe (e :: es) [] pos) X.env = (do callWith pos (← eval fe X.env) [] (backTo pos (starEach (e :: es) X.env)) (backToKw pos (keywordEach [] X.env))) := by rfl)
    (first : starEach (e :: es) X.env = (false, eval e X.env) :: starEach es X.env := by rfl) (star : (backTo pos (starEach es X.env)).any (·.1) = true := by rfl) :
    PE X (.Call fe (e :: es) [] pos) (fun σ H Q => tf σ H fun y H1 => y = V.ref C ∧ tMakeR C sp E t σ H1 Q) := by
  constructor
  intro pins s σ H Q I h
  refine Call_ (thn (hf.run pins s σ H _ I h) fun u s1 hu => ?_) tree
  obtain ⟨y, H1, I1, ry, rfl, q⟩ := hu
  cases (show u = Value.ref C from ry)
  exact PySem.W.callWith_S2 (h₀ := X.base) I1.ok.mod.kin M.kp (thn (ha.run pos pins s1 σ H1 _ I1 q) fun us s2 hus => by
    obtain ⟨vs, H2, I2, r, q2⟩ := hus
    exact ⟨I2.kIn, run_makeR M F room hx I2 r q2⟩) first star
end
end FS
set_option Elab.async false
set_option linter.all false
set_option maxRecDepth 100000
set_option maxHeartbeats 4000000
/-! {elt for tg in iter if .. for tg1 in iter1 if ..}, elt a text -/
namespace FS
open PySem PySem.Spec PyProof.Rows L2
theorem ct_out (elt t0 i0 t1 i1 : Expr) (ifs0 ifs1 : List Expr) (scope : Scope) (pos : Pos) (it acc : Value) (env : Env) :
    compTurn (.SetComp elt [⟨t0, i0, ifs0, 0⟩, ⟨t1, i1, ifs1, 0⟩] scope pos) 0 it acc env = (do
      standAt i0.pos
      match ← pyNext it with
      | none => pure (.done .next)
      | some v =>
        letOwnedTupleGo t0 it v
        assign t0 env v
        let mut ok := true
        for c in ifs0 do
          if ok then ok ← isTrue c env (eval c env)
        if ok then
          let x ← eval i1 env
          standAt i1.pos
          let x ← foldedSetIterable i1 env x
          let _ ← runOwn (.compStart (.SetComp elt [⟨t0, i0, ifs0, 0⟩, ⟨t1, i1, ifs1, 0⟩] scope pos) 1 (← holding [x] (pyIter x)) acc env) env
        again (.compLoop (.SetComp elt [⟨t0, i0, ifs0, 0⟩, ⟨t1, i1, ifs1, 0⟩] scope pos) 0 it acc env)) := by rfl
theorem ct_in (elt t0 i0 t1 i1 : Expr) (ifs0 ifs1 : List Expr) (scope : Scope) (pos : Pos) (it acc : Value) (env : Env) :
    compTurn (.SetComp elt [⟨t0, i0, ifs0, 0⟩, ⟨t1, i1, ifs1, 0⟩] scope pos) 1 it acc env = (do
      standAt i1.pos
      match ← pyNext it with
      | none => pure (.done .next)
      | some v =>
        letOwnedTupleGo t1 it v
        assign t1 env v
        let mut ok := true
        for c in ifs1 do
          if ok then ok ← isTrue c env (eval c env)
        if ok then
          (do let v ← eval elt env; standAt elt.pos; let _ ← call (.builtin "set.add") [acc, v])
        again (.compLoop (.SetComp elt [⟨t0, i0, ifs0, 0⟩, ⟨t1, i1, ifs1, 0⟩] scope pos) 1 it acc env)) := by rfl
section
variable {prog : Program} {w : World} {A : Around} {R : Result → Shared → Prop} {u : Shared} {elt t0 i0 t1 i1 : Expr} {ifs0 ifs1 : List Expr} {scope : Scope} {pos : Pos} {it acc : Value} {env : Env}
theorem cl_out (hs : ∀ x, foldedSetIterable i1 env x = pure x) (I : Nat → Shared → Prop)
    (zturn : ∀ n u, I n u → wpAny (model prog w) A (pyNext it) (fun r u₁ => match r with
      | none => R (.ok .next) u₁
      | some v => wpAny (model prog w) A (letOwnedTupleGo t0 it v) (fun _ u₁' => wpAny (model prog w) A (assign t0 env v) (fun _ u₂ =>
          wpAny (model prog w) A (forIn ifs0 true fun c r => if r = true then do let ok ← isTrue c env (eval c env); pure (ForInStep.yield ok) else pure (ForInStep.yield r)) (fun ok u₃ =>
            if ok = true then wpAny (model prog w) A (eval i1 env) (fun x u₄ => wpAny (model prog w) A (pyIter x) (fun it1 u₅ =>
              codeAny (model prog w) A (.compStart (.SetComp elt [⟨t0, i0, ifs0, 0⟩, ⟨t1, i1, ifs1, 0⟩] scope pos) 1 it1 acc env) (fun r u' => match r with
                | .ok _ => ∃ m, m < n ∧ I m u'
                | .error _ => False) u₅) (notedBy (model prog w) A env fun e u' => R (.error e) u') u₄) (notedBy (model prog w) A env fun e u' => R (.error e) u') u₃
            else ∃ m, m < n ∧ I m u₃) (notedBy (model prog w) A env fun e u' => R (.error e) u') u₂) (notedBy (model prog w) A env fun e u' => R (.error e) u') u₁') (notedBy (model prog w) A env fun e u' => R (.error e) u') u₁) (notedBy (model prog w) A env fun e u' => R (.error e) u') u)
    (n : Nat) (h : I n u) :
    codeAny (model prog w) A (.compLoop (.SetComp elt [⟨t0, i0, ifs0, 0⟩, ⟨t1, i1, ifs1, 0⟩] scope pos) 0 it acc env) R u := by
  refine codeAny_loop rfl I (fun n u hI => ?_) n h
  show wpAny _ A ((compTurn (.SetComp elt [⟨t0, i0, ifs0, 0⟩, ⟨t1, i1, ifs1, 0⟩] scope pos) 0 it acc env).onRaise (fun x => do noteFrame x env; theTreesLotGoes x)) _ _ u
  refine wpAny_noted ?_
  rw [ct_out]
  refine wpAny_bind (wpAny_standAt (wpAny_bind (wpAny_mono (zturn n u hI) (fun r u₁ kh₁ => ?_) fun _ _ h' => h')))
  cases r with
  | none => exact wpAny_pure kh₁
  | some v =>
    refine wpAny_bind (wpAny_mono kh₁ (fun _ u₁' kh₁' => ?_) fun _ _ h' => h')
    refine wpAny_bind (wpAny_mono kh₁' (fun _ u₂ kh₂ => wpAny_bind (wpAny_mono kh₂ (fun ok u₃ kh₃ => ?_) fun _ _ h' => h')) fun _ _ h' => h')
    cases ok with
    | false => exact wpAny_pure ⟨rfl, kh₃⟩
    | true =>
      refine wpAny_bind (wpAny_mono kh₃ (fun x u₄ kh₄ => ?_) fun _ _ h' => h')
      refine wpAny_bind (wpAny_standAt (wpAny_bind (wpAny_of_eq (hs x) (wpAny_bind (wpAny_holding (wpAny_mono kh₄ (fun it1 u₅ kh₅ => ?_) fun _ _ h' => h'))))))
      refine wpAny_bind (wpAny_runOwn ?_)
      rw [Around.mark_none]
      refine codeAny_mono kh₅ fun r u' hr => ?_
      cases r with
      | ok f =>
        first
          | exact wpAny_pure ⟨rfl, hr⟩
          | exact wpAny_bind (wpAny_pure (wpAny_pure ⟨rfl, hr⟩))
      | error e => exact hr.elim
theorem cl_in (I : Nat → Shared → Prop)
    (zturn : ∀ n u, I n u → wpAny (model prog w) A (pyNext it) (fun r u₁ => match r with
      | none => R (.ok .next) u₁
      | some v => wpAny (model prog w) A (letOwnedTupleGo t1 it v) (fun _ u₁' => wpAny (model prog w) A (assign t1 env v) (fun _ u₂ =>
          wpAny (model prog w) A (forIn ifs1 true fun c r => if r = true then do let ok ← isTrue c env (eval c env); pure (ForInStep.yield ok) else pure (ForInStep.yield r)) (fun ok u₃ =>
            if ok = true then wpAny (model prog w) A (eval elt env) (fun x u₄ =>
              wpAny (model prog w) A (call (.builtin "set.add") [acc, x]) (fun _ u₅ => ∃ m, m < n ∧ I m u₅) (notedBy (model prog w) A env fun e u' => R (.error e) u') u₄) (notedBy (model prog w) A env fun e u' => R (.error e) u') u₃
            else ∃ m, m < n ∧ I m u₃) (notedBy (model prog w) A env fun e u' => R (.error e) u') u₂) (notedBy (model prog w) A env fun e u' => R (.error e) u') u₁') (notedBy (model prog w) A env fun e u' => R (.error e) u') u₁) (notedBy (model prog w) A env fun e u' => R (.error e) u') u)
    (n : Nat) (h : I n u) :
    codeAny (model prog w) A (.compLoop (.SetComp elt [⟨t0, i0, ifs0, 0⟩, ⟨t1, i1, ifs1, 0⟩] scope pos) 1 it acc env) R u := by
  refine codeAny_loop rfl I (fun n u hI => ?_) n h
  show wpAny _ A ((compTurn (.SetComp elt [⟨t0, i0, ifs0, 0⟩, ⟨t1, i1, ifs1, 0⟩] scope pos) 1 it acc env).onRaise (fun x => do noteFrame x env; theTreesLotGoes x)) _ _ u
  refine wpAny_noted ?_
  rw [ct_in]
  refine wpAny_bind (wpAny_standAt (wpAny_bind (wpAny_mono (zturn n u hI) (fun r u₁ kh₁ => ?_) fun _ _ h' => h')))
  cases r with
  | none => exact wpAny_pure kh₁
  | some v =>
    refine wpAny_bind (wpAny_mono kh₁ (fun _ u₁' kh₁' => ?_) fun _ _ h' => h')
    refine wpAny_bind (wpAny_mono kh₁' (fun _ u₂ kh₂ => wpAny_bind (wpAny_mono kh₂ (fun ok u₃ kh₃ => ?_) fun _ _ h' => h')) fun _ _ h' => h')
    cases ok with
    | false => exact wpAny_pure ⟨rfl, kh₃⟩
    | true =>
      exact wpAny_bind (wpAny_bind (wpAny_mono kh₃ (fun x u₄ kh₄ => wpAny_bind (wpAny_standAt (wpAny_bind (wpAny_mono kh₄ (fun _ u₅ kh₅ => wpAny_pure (wpAny_pure ⟨rfl, kh₅⟩)) fun _ _ h' => h')))) fun _ _ h' => h'))
theorem cs_ok (h0 : codeAny (model prog w) A (.compLoop (.SetComp elt [⟨t0, i0, ifs0, 0⟩, ⟨t1, i1, ifs1, 0⟩] scope pos) 1 it acc env) R u)
    (h : wpAny (model prog w) A (pyIter it) (fun it' u' => codeAny (model prog w) A (.compLoop (.SetComp elt [⟨t0, i0, ifs0, 0⟩, ⟨t1, i1, ifs1, 0⟩] scope pos) 1 it' acc env) R u')
      (notedBy (model prog w) A env fun x u' => R (.error x) u') u) :
    codeAny (model prog w) A (.compStart (.SetComp elt [⟨t0, i0, ifs0, 0⟩, ⟨t1, i1, ifs1, 0⟩] scope pos) 1 it acc env) R u := by
  refine codeAny_of_tree ?_
  show wpAny _ _ ((compStart (.SetComp elt [⟨t0, i0, ifs0, 0⟩, ⟨t1, i1, ifs1, 0⟩] scope pos) 1 it acc env).onRaise (fun x => do noteFrame x env; standAt theWindowsPlace)) _ _ u
  refine wpAny_notedAt ?_
  unfold compStart
  show wpAny _ _ (ask >>= _) _ _ u
  refine wpAny_bind (wpAny_askSetting (wpAny_ite ?_))
  split
  · first
      | exact wpAny_bind (wpAny_pure (wpAny_pure (And.intro rfl h0)))
      | exact wpAny_pure (And.intro rfl h0)
  · first
      | exact wpAny_bind (wpAny_rule (wpAny_bind (wpAny_standAt (wpAny_bind (wpAny_mono h (fun it' u' h' => wpAny_pure (And.intro rfl h')) fun _ _ x => x)))))
      | (refine wpAny_bind (wpAny_rule ?_); show wpAny _ _ (standAt i1.pos >>= _) _ _ u; exact wpAny_bind (wpAny_standAt (wpAny_bind (wpAny_mono h (fun it' u' h' => wpAny_pure (And.intro rfl h')) fun _ _ x => x))))
end
def tSet2 (w : World) (wi : TI) (g : TG) (tt : TT) (wi1 : TI) (g1 : TG) (tt1 : TT) (te : TE) (vs vs1 : List Nat) : TE := fun σ H Q => wi σ H fun J H1 => ∀ D, H1 D = none → ∃ W : Nat → Nat → Hp → Prop, (∃ m, W 0 m (upd H1 D (SO w D []))) ∧ ∀ i m H, W i m H →
  (J.stop i H ∧ Q (.ref D) H) ∨ (J.go i H ∧ ∃ Nx : Hp → Prop, (∀ H', Nx H' → ∃ m', m' < m ∧ W (i + 1) m' H') ∧ ∀ x H', J.yld i H x H' → g x (wipe σ vs) H' fun σ2 H2 => wipe σ2 vs = wipe σ vs ∧ tt σ2 H2 fun b H3 =>
    if b = true then wi1 σ2 H3 fun J1 H4 => ∃ W1 : Nat → Nat → Hp → Prop, (∃ m, W1 0 m H4) ∧ ∀ j k H, W1 j k H →
      (J1.stop j H ∧ Nx H) ∨ (J1.go j H ∧ ∃ Nx1 : Hp → Prop, (∀ H', Nx1 H' → ∃ k', k' < k ∧ W1 (j + 1) k' H') ∧ ∀ x H', J1.yld j H x H' → g1 x (wipe σ2 vs1) H' fun σ3 H5 => wipe σ3 vs1 = wipe σ2 vs1 ∧ tt1 σ3 H5 fun b H6 =>
        if b = true then te σ3 H6 fun y H7 => ∃ (z : Str) (xs : List Str), y = .str z ∧ H7 D = some (SO w D xs) ∧ xs.length + 1 < scanBound ∧ Nx1 (upd H7 D (SO w D (addS xs z))) else Nx1 H6)
    else Nx H3)
theorem set2_core {pins : List (Addr × Obj)} {u : Shared} {σ : L2.St} {H : Hp} {Q : VK} {elt tg iter tg1 iter1 : Expr} {ifs ifs1 : List Expr} {scope : Scope} {own : List (Str × Nat)} {vs1 : List Nat} {pos pos' : Pos} {wi wi1 : TI} {g g1 : TG} {tt tt1 : TT} {te : TE} {use : Option (Value → Sem Unit)} {Qf : Value → Shared → Prop}
    (hc : X.calm = true) (hN : X.N.Nodup) (I : Inv X pins σ H u) (hi : PI X tg iter wi) (ok : BlkOk X.N X.env.scope scope own) (hv : ∀ i ∈ vs1, i ∈ own.map (·.2))
    (hg : ∀ (u : Shared) (H : Hp) (C : Addr) (cl : List (Str × Addr)) (fp : List Addr), PG (X.blk u H scope (compEnvC scope cl C X.env) fp) tg g) (ht : ∀ (u : Shared) (H : Hp) (C : Addr) (cl : List (Str × Addr)) (fp : List Addr), PTs (X.blk u H scope (compEnvC scope cl C X.env) fp) ifs tt)
    (he : ∀ (u : Shared) (H : Hp) (C : Addr) (cl : List (Str × Addr)) (fp : List Addr), PE (X.blk u H scope (compEnvC scope cl C X.env) fp) elt te) (hs : ∀ x, foldedSetIterable iter X.env x = pure x)
    (hi1 : ∀ (u : Shared) (H : Hp) (C : Addr) (cl : List (Str × Addr)) (fp : List Addr), PI (X.blk u H scope (compEnvC scope cl C X.env) fp) tg1 iter1 wi1)
    (hg1 : ∀ (u : Shared) (H : Hp) (C : Addr) (cl : List (Str × Addr)) (fp : List Addr), PG (X.blk u H scope (compEnvC scope cl C X.env) fp) tg1 g1)
    (ht1 : ∀ (u : Shared) (H : Hp) (C : Addr) (cl : List (Str × Addr)) (fp : List Addr), PTs (X.blk u H scope (compEnvC scope cl C X.env) fp) ifs1 tt1)
    (hs1 : ∀ env x, foldedSetIterable iter1 env x = pure x)
    (h : tSet2 X.w wi g tt wi1 g1 tt1 te (own.map (·.2)) vs1 σ H Q)
    (zhRR : ∀ D C u' m H', Inv X pins σ H' u' → Q (.ref D) H' → u'.heap.Ns C m → FpOk X pins H' C → compPost (model X.prog X.w) X.A X.xe use Qf (.ref D) C (.ok .next) u') :
    wpAny (model X.prog X.w) X.A (comprehension (.SetComp elt [⟨tg, iter, ifs, 0⟩, ⟨tg1, iter1, ifs1, 0⟩] scope pos) scope X.env pos' (newSet (.type "set")) false (eval iter X.env) use) Qf X.xe u := by
  have zhfree : ∀ y ∈ scope.names, y.2 = .free → ∃ c, X.env.cells.lookup y.1 = some c := fun y hy e => by
    rcases ok.free y hy e with k | k
    · exact I.ok.has _ (.inl k)
    · exact I.ok.has _ (.inr k)
  refine wpAny_comprehension_free (use := use) rfl hs (closure_ok zhfree) ok.kind (fun y hy e => by rw [ok.uniq y hy, e])
    (thn (hi.run pins u σ H _ I h) fun xv u1 hx => thn hx fun itv u2 h2 => ?_)
  obtain ⟨it, fp, tn, J, H2, e, I2, T, st2, f2, q⟩ := h2
  subst e
  refine PpSet.newSet_ok (newEnv_comp ?_)
  generalize hD : u2.heap.objs.size = D
  have hDn : H2 D = none := I2.hok.fresh (Nat.le_of_eq hD)
  obtain ⟨W, ⟨m0, zw0⟩, zturn⟩ := q D hDn
  -- the new list
  generalize hs3 : ({ u2 with heap := u2.heap.push { cls := .type "set", dict := none, data := .set #[] 0 (.fresh 0 0 (!X.w.params.followText "set-order")) } } : Shared) = u3
  have I3 : Inv X pins σ (upd H2 D (SO X.w D [])) u3 := by
    rw [← hs3]
    refine I2.laid (t' := u2.toks) (fun b o e => Heap.get?_push_of_some _ e) (Nat.le_of_eq hD) (SO.mk ?_)
    rw [← hD]
    exact SetS.new X.w
  have h3 : u3.heap = u2.heap.push { cls := .type "set", dict := none, data := .set #[] 0 (.fresh 0 0 (!X.w.params.followText "set-order")) } := by rw [← hs3]
  have zsz : ∀ b ∈ fp, b < u2.heap.objs.size := fun b hb => by
    obtain ⟨o, e, _⟩ := T.obj _ _ st2 b hb
    exact Heap.lt_size e
  have f3 : ∀ b ∈ fp, FpOk X pins (upd H2 D (SO X.w D [])) b ∧ b < u3.heap.objs.size := fun b hb => by
    have hlt := zsz b hb
    refine ⟨⟨?_, (f2 b hb).2⟩, by rw [h3, Heap.size_push]; exact Nat.lt_succ_of_lt hlt⟩
    rw [upd_ne (by rw [← hD]; exact Nat.ne_of_lt hlt)]
    exact (f2 b hb).1
  have zst3 : tn 0 u3.heap := T.keep _ _ _ st2 fun b _ o e => by rw [h3]; exact Heap.get?_push_of_some _ e
  have I4 := block_start I3 ok hN f3
  have pg := hg u3 (upd H2 D (SO X.w D [])) u3.heap.objs.size (cellsFrom (u3.heap.objs.size + 1) scope.names (cloFrom X.env.cells scope.names [])) fp
  have pt := ht u3 (upd H2 D (SO X.w D [])) u3.heap.objs.size (cellsFrom (u3.heap.objs.size + 1) scope.names (cloFrom X.env.cells scope.names [])) fp
  have pe := he u3 (upd H2 D (SO X.w D [])) u3.heap.objs.size (cellsFrom (u3.heap.objs.size + 1) scope.names (cloFrom X.env.cells scope.names [])) fp
  have pi1 := hi1 u3 (upd H2 D (SO X.w D [])) u3.heap.objs.size (cellsFrom (u3.heap.objs.size + 1) scope.names (cloFrom X.env.cells scope.names [])) fp
  have pg1 := hg1 u3 (upd H2 D (SO X.w D [])) u3.heap.objs.size (cellsFrom (u3.heap.objs.size + 1) scope.names (cloFrom X.env.cells scope.names [])) fp
  have pt1 := ht1 u3 (upd H2 D (SO X.w D [])) u3.heap.objs.size (cellsFrom (u3.heap.objs.size + 1) scope.names (cloFrom X.env.cells scope.names [])) fp
  show codeAny _ _ (.compStart (.SetComp elt [⟨tg, iter, ifs, 0⟩, ⟨tg1, iter1, ifs1, 0⟩] scope pos) 0 (.ref it) (.ref D) (compEnvC scope (cellsFrom (u3.heap.objs.size + 1) scope.names (cloFrom X.env.cells scope.names [])) u3.heap.objs.size X.env)) (compPost (model X.prog X.w) X.A X.xe use Qf (.ref D) u3.heap.objs.size) { u3 with heap := pushCells (u3.heap.push { cls := .type "dict", data := .dict #[] }) scope.names }
  have znfp : ∀ b ∈ fp, (upd H2 D (SO X.w D [])) b = none := fun b hb => (f3 b hb).1.1
  generalize hce : compEnvC scope (cellsFrom (u3.heap.objs.size + 1) scope.names (cloFrom X.env.cells scope.names [])) u3.heap.objs.size X.env = ce at I4 pg pt pe pi1 pg1 pt1 ⊢
  have cL : ce.locals = u3.heap.objs.size := by subst hce; rfl
  generalize hH3 : upd H2 D (SO X.w D []) = H3 at I3 I4 pg pt pe pi1 pg1 pt1 zw0 znfp f3
  generalize hs4 : ({ u3 with heap := pushCells (u3.heap.push { cls := .type "dict", data := .dict #[] }) scope.names } : Shared) = u4 at I4 ⊢
  have zst4 : tn 0 u4.heap := T.keep _ _ _ zst3 fun b _ o e => by rw [← hs4]; exact pushCells_keeps _ _ _ _ (Heap.get?_push_of_some _ e)
  have zstat : ∀ {σ' : L2.St} {H' : Hp} {u' : Shared}, Inv (X.blk u3 H3 scope ce fp) [] σ' H' u' → (∀ b ∈ fp, H' b = none) → ∀ b ∈ fp, FpOk (X.blk u3 H3 scope ce fp) [] H' b := fun {σ' H' u'} I' hn b hb =>
    ⟨hn b hb, (I'.ok.exf b hb).1, I'.ok.exfs b hb, .inl hb, fun x c e => (I'.ok.exf b hb).2 x c e, fun p hp => absurd (show p ∈ ([] : List (Addr × Obj)) ++ [] from hp) (by simp)⟩
  have zloop : codeAny (model X.prog X.w) X.A (.compLoop (.SetComp elt [⟨tg, iter, ifs, 0⟩, ⟨tg1, iter1, ifs1, 0⟩] scope pos) 0 (.ref it) (.ref D) ce) (compPost (model X.prog X.w) X.A X.xe use Qf (.ref D) u3.heap.objs.size) u4 := by
    refine cl_out (hs1 ce) (fun n u' => ∃ i H', Inv (X.blk u3 H3 scope ce fp) [] (wipe σ (own.map (·.2))) H' u' ∧ tn i u'.heap ∧ (∀ b ∈ fp, H' b = none) ∧ W i n H') ?_ m0 ⟨0, H3, I4, zst4, znfp, zw0⟩
    rintro n u5 ⟨i, H5, I5, zst5, zn5, zw5⟩
    rcases zturn i n H5 zw5 with ⟨zstop, qq⟩ | ⟨zgo, Nx, hNx, zstep⟩
    · have ztd := T.done (X.blk u3 H3 scope ce fp) rfl rfl rfl hc i [] u5 _ H5 (fun _ _ => False) I5 (zstat I5 zn5) zst5 zstop
      refine thnF ztd fun r u6 ⟨hr, I6⟩ => ?_
      subst hr
      -- back in the def's context
      have I7 : Inv X pins σ H5 u6 := I3.call' (ch := fp) I6.os I6.base I6.hok I6.bare fun b hb => ⟨(f3 b hb).1.2.2.2.1, (f3 b hb).1.2.1, (f3 b hb).1.2.2.2.2.1, (f3 b hb).1.2.2.2.2.2⟩
      have nC : H5 u3.heap.objs.size = none := by
        have z : H5 ce.locals = none := I6.free
        rw [cL] at z
        exact z
      obtain ⟨m, hn, _⟩ := I6.loc
      have hn : u6.heap.Ns ce.locals m := hn
      rw [cL] at hn
      exact zhRR D u3.heap.objs.size u6 m H5 I7 qq hn (I3.fpOk (Nat.le_refl _) nC)
    · have zti := T.item (X.blk u3 H3 scope ce fp) rfl rfl rfl hc i [] u5 _ H5 (fun _ _ => False) I5 (zstat I5 zn5) zst5 zgo
      refine thnF zti fun r u6 ⟨u, hr, h6⟩ => ?_
      subst hr
      refine thnF h6 fun _ u7 ⟨x, H7, I7, r7, y7, zst7, zn7⟩ => ?_
      have I7' := I7.pinned (zstat I7 zn7) (T.obj _ _ zst7)
      refine thnF (pg.run _ u7 _ H7 x u _ I7' r7 (zstep x H7 y7)) fun _ u8 ⟨σ8, H8, I8, hw8, zq8⟩ => ?_
      refine thnF (pt.run _ u8 σ8 H8 _ I8 zq8) fun b u9 ⟨H9, I9, zq9⟩ => ?_
      -- the turn's end, from any slots that know what the block knew at its start
      have zfin : ∀ {σ9 : L2.St} {u' : Shared} {H' : Hp}, Inv (X.blk u3 H3 scope ce fp) ([] ++ pinsAt fp u7.heap) σ9 H' u' → (wipe σ (own.map (·.2))).length = σ9.length → (∀ (j : Nat) v, (wipe σ (own.map (·.2)))[j]? = some (some v) → σ9[j]? = some (some v)) → Nx H' →
          ∃ m, m < n ∧ ∃ i H', Inv (X.blk u3 H3 scope ce fp) [] (wipe σ (own.map (·.2))) H' u' ∧ tn i u'.heap ∧ (∀ b ∈ fp, H' b = none) ∧ W i m H' := fun {σ9 u' H'} I' hl hk nx => by
        obtain ⟨m', hm, w'⟩ := hNx H' nx
        have pin' : ∀ b ∈ fp, ∀ o, u7.heap.get? b = some o → u'.heap.get? b = some o ∧ H' b = none := fun b hb o e =>
          let z := I'.pin (b, o) (List.mem_append_right _ (List.mem_append_right _ (mem_pinsAt hb e)))
          ⟨z.1, z.2.1⟩
        refine ⟨m', hm, i + 1, H', (I'.unpinned (pins := [])).weak hl hk, T.keep _ _ _ zst7 fun b hb o e => (pin' b hb o e).1, fun b hb => ?_, w'⟩
        obtain ⟨o, e, _⟩ := T.obj _ _ zst7 b hb
        exact (pin' b hb o e).2
      have zhl8 : (wipe σ (own.map (·.2))).length = σ8.length := by rw [← hw8, wipe_length]
      have zhk8 : ∀ (j : Nat) v, (wipe σ (own.map (·.2)))[j]? = some (some v) → σ8[j]? = some (some v) := fun j v e => by
        rw [← hw8] at e
        exact (wipe_some e).1
      have zhk9 : ∀ (j : Nat) v, (wipe σ (own.map (·.2)))[j]? = some (some v) → (wipe σ8 vs1)[j]? = some (some v) := fun j v e => by
        rw [← hw8] at e
        obtain ⟨e1, e2⟩ := wipe_some e
        rw [wipe_out fun z => e2 (hv j z)]
        exact e1
      cases b with
      | false =>
        simp only [Bool.false_eq_true, if_false] at zq9 ⊢
        exact zfin I9 zhl8 zhk8 zq9
      | true =>
        simp only [if_true] at zq9 ⊢
        refine thnF (pi1.run _ u9 σ8 H9 _ I9 zq9) fun xv u10 hx => thnF hx fun itv u11 h11 => ?_
        obtain ⟨it1, fp1, tn1, J1, H11, e1, I11, T1, zst11, f11, W1, ⟨m1, zw1⟩, zturn1⟩ := h11
        subst e1
        -- the inner zloop
        have zstat1 : ∀ {H' : Hp}, (∀ b ∈ fp1, H' b = none) → ∀ b ∈ fp1, FpOk (X.blk u3 H3 scope ce fp) ([] ++ pinsAt fp u7.heap) H' b := fun hn b hb => ⟨hn b hb, (f11 b hb).2⟩
        have zloop1 : codeAny (model X.prog X.w) X.A (.compLoop (.SetComp elt [⟨tg, iter, ifs, 0⟩, ⟨tg1, iter1, ifs1, 0⟩] scope pos) 1 (.ref it1) (.ref D) ce)
            (fun r u' => match r with
              | .ok _ => ∃ m, m < n ∧ ∃ i H', Inv (X.blk u3 H3 scope ce fp) [] (wipe σ (own.map (·.2))) H' u' ∧ tn i u'.heap ∧ (∀ b ∈ fp, H' b = none) ∧ W i m H'
              | .error _ => False) u11 := by
          refine cl_in (fun k u' => ∃ j H', Inv (X.blk u3 H3 scope ce fp) ([] ++ pinsAt fp u7.heap) (wipe σ8 vs1) H' u' ∧ tn1 j u'.heap ∧ (∀ b ∈ fp1, H' b = none) ∧ W1 j k H') ?_ m1 ⟨0, H11, I11.weak (wipe_length _ _) (fun j v e => (wipe_some e).1), zst11, fun b hb => (f11 b hb).1, zw1⟩
          rintro k u12 ⟨j, H12, I12, zst12, zn12, zw12⟩
          rcases zturn1 j k H12 zw12 with ⟨zstop1, nx1⟩ | ⟨zgo1, Nx1, hNx1, zstep1⟩
          · refine thnF (T1.done (X.blk u3 H3 scope ce fp) rfl rfl rfl hc j _ u12 (wipe σ8 vs1) H12 (fun _ _ => False) I12 (zstat1 zn12) zst12 zstop1) fun r u13 ⟨hr, I13⟩ => ?_
            subst hr
            exact zfin I13 (zhl8.trans (wipe_length σ8 vs1).symm) zhk9 nx1
          · refine thnF (T1.item (X.blk u3 H3 scope ce fp) rfl rfl rfl hc j _ u12 (wipe σ8 vs1) H12 (fun _ _ => False) I12 (zstat1 zn12) zst12 zgo1) fun r u13 ⟨u1, hr, h13⟩ => ?_
            subst hr
            refine thnF h13 fun _ u14 ⟨x1, H14, I14, r14, y14, zst14, zn14⟩ => ?_
            have I14' := I14.pinned (zstat1 zn14) (T1.obj _ _ zst14)
            refine thnF (pg1.run _ u14 (wipe σ8 vs1) H14 x1 u1 _ I14' r14 (zstep1 x1 H14 y14)) fun _ u15 ⟨σ15, H15, I15, hw15, zq15⟩ => ?_
            refine thnF (pt1.run _ u15 σ15 H15 _ I15 zq15) fun b1 u16 ⟨H16, I16, zq16⟩ => ?_
            have zfin1 : ∀ {u' : Shared} {H' : Hp}, Inv (X.blk u3 H3 scope ce fp) (([] ++ pinsAt fp u7.heap) ++ pinsAt fp1 u14.heap) σ15 H' u' → Nx1 H' → ∃ m, m < k ∧ ∃ j H', Inv (X.blk u3 H3 scope ce fp) ([] ++ pinsAt fp u7.heap) (wipe σ8 vs1) H' u' ∧ tn1 j u'.heap ∧ (∀ b ∈ fp1, H' b = none) ∧ W1 j m H' := fun {u' H'} I' nx => by
              obtain ⟨m', hm, w'⟩ := hNx1 H' nx
              have pin' : ∀ b ∈ fp1, ∀ o, u14.heap.get? b = some o → u'.heap.get? b = some o ∧ H' b = none := fun b hb o e =>
                let z := I'.pin (b, o) (List.mem_append_right _ (List.mem_append_right _ (mem_pinsAt hb e)))
                ⟨z.1, z.2.1⟩
              refine ⟨m', hm, j + 1, H', I'.unpinned.weak (by rw [← hw15, wipe_length]) (fun j v e => by rw [← hw15] at e; exact (wipe_some e).1), T1.keep _ _ _ zst14 fun b hb o e => (pin' b hb o e).1, fun b hb => ?_, w'⟩
              obtain ⟨o, e, _⟩ := T1.obj _ _ zst14 b hb
              exact (pin' b hb o e).2
            cases b1 with
            | false =>
              simp only [Bool.false_eq_true, if_false] at zq16 ⊢
              exact zfin1 I16 zq16
            | true =>
              simp only [if_true] at zq16 ⊢
              refine thnF (pe.run _ u16 σ15 H16 _ I16 zq16) fun z u17 ⟨yv, H17, I17, r17, zt, zs, ey, hD17, hz17, nx⟩ => ?_
              subst ey
              obtain ⟨tk, rfl⟩ := (show ∃ tk, z = Value.str zt tk from r17)
              exact SO.put (X := X.blk u3 H3 scope ce fp) I17 hD17 hz17 fun u18 I18 => zfin1 I18 nx
        exact cs_ok zloop1 (T1.self X.A 0 _ _ _ zst11 zloop1)
  exact PpSet.codeAny_compStart_set zloop (T.self X.A 0 _ _ _ zst4 zloop)
theorem pe_set2 {elt tg iter tg1 iter1 : Expr} {ifs ifs1 : List Expr} {scope : Scope} {own : List (Str × Nat)} {vs1 : List Nat} {pos : Pos} {wi wi1 : TI} {g g1 : TG} {tt tt1 : TT} {te : TE} (hc : X.calm = true) (hN : X.N.Nodup) (hi : PI X tg iter wi) (ok : BlkOk X.N X.env.scope scope own) (hv : ∀ i ∈ vs1, i ∈ own.map (·.2))
    (hg : ∀ (u : Shared) (H : Hp) (C : Addr) (cl : List (Str × Addr)) (fp : List Addr), PG (X.blk u H scope (compEnvC scope cl C X.env) fp) tg g) (ht : ∀ (u : Shared) (H : Hp) (C : Addr) (cl : List (Str × Addr)) (fp : List Addr), PTs (X.blk u H scope (compEnvC scope cl C X.env) fp) ifs tt)
    (hi1 : ∀ (u : Shared) (H : Hp) (C : Addr) (cl : List (Str × Addr)) (fp : List Addr), PI (X.blk u H scope (compEnvC scope cl C X.env) fp) tg1 iter1 wi1)
    (hg1 : ∀ (u : Shared) (H : Hp) (C : Addr) (cl : List (Str × Addr)) (fp : List Addr), PG (X.blk u H scope (compEnvC scope cl C X.env) fp) tg1 g1) (ht1 : ∀ (u : Shared) (H : Hp) (C : Addr) (cl : List (Str × Addr)) (fp : List Addr), PTs (X.blk u H scope (compEnvC scope cl C X.env) fp) ifs1 tt1)
    (he : ∀ (u : Shared) (H : Hp) (C : Addr) (cl : List (Str × Addr)) (fp : List Addr), PE (X.blk u H scope (compEnvC scope cl C X.env) fp) elt te) (hs : ∀ x, foldedSetIterable iter X.env x = pure x := by intro _; rfl) (hs1 : ∀ env x, foldedSetIterable iter1 env x = pure x := by intro _ _; rfl) :
    PE X (.SetComp elt [⟨tg, iter, ifs, 0⟩, ⟨tg1, iter1, ifs1, 0⟩] scope pos) (tSet2 X.w wi g tt wi1 g1 tt1 te (own.map (·.2)) vs1) := by
  refine ⟨fun pins u σ H Q I h => ?_⟩
  rw [PpSet.eval_SetComp]
  refine set2_core hc hN I hi ok hv hg ht he hs hi1 hg1 ht1 hs1 h fun D C u' m H' I' q hn f => ⟨m, hn, fun h'' sb => ?_⟩
  obtain ⟨f0, f1, f2, f3, f4, f5⟩ := f
  exact ⟨.ref D, H', I'.turned (t' := u'.toks) (fun b o hb e => (sb.2 b hb).trans e) f0 f1 f3 f4 f5, rfl, q⟩
end FS
set_option Elab.async false
set_option linter.all false
set_option maxRecDepth 100000
set_option maxHeartbeats 4000000
/-! making a program -/
namespace FS
open PySem PySem.Spec PyProof.Rows L2
theorem qf2 {a v : V} : putF "_procedures" v [("_modes", a)] = ([("_modes", a), ("_procedures", v)] : List (Str × V)) := by
  rw [putA (by decide +kernel)]
  rfl
theorem qf3 {a b v : V} : putF "_by_name" v [("_modes", a), ("_procedures", b)] = ([("_modes", a), ("_procedures", b), ("_by_name", v)] : List (Str × V)) := by
  rw [putA (by decide +kernel), putA (by decide +kernel)]
  rfl
theorem qf4 {a b c v : V} : putF "_names" v [("_modes", a), ("_procedures", b), ("_by_name", c)] = ([("_modes", a), ("_procedures", b), ("_by_name", c), ("_names", v)] : List (Str × V)) := by
  rw [putA (by decide +kernel), putA (by decide +kernel), putA (by decide +kernel)]
  rfl
theorem qf5 {a b c d v : V} : putF "_words" v [("_modes", a), ("_procedures", b), ("_by_name", c), ("_names", d)] = ([("_modes", a), ("_procedures", b), ("_by_name", c), ("_names", d), ("_words", v)] : List (Str × V)) := by
  rw [putA (by decide +kernel), putA (by decide +kernel), putA (by decide +kernel), putA (by decide +kernel)]
  rfl
theorem qf6 {a b c d e v : V} : putF "_has_wraps" v [("_modes", a), ("_procedures", b), ("_by_name", c), ("_names", d), ("_words", e)] = ([("_modes", a), ("_procedures", b), ("_by_name", c), ("_names", d), ("_words", e), ("_has_wraps", v)] : List (Str × V)) := by
  rw [putA (by decide +kernel), putA (by decide +kernel), putA (by decide +kernel), putA (by decide +kernel), putA (by decide +kernel)]
  rfl
theorem qlk3 {a b c : V} : ([("_modes", a), ("_procedures", b), ("_by_name", c)] : List (Str × V)).lookup ("_by_name" : Str) = some c := (lkP (by decide +kernel)).trans ((lkP (by decide +kernel)).trans lkH)
/-- procedures stay where just one object beside them changes -/
theorem PsAt.kp {K : PySem.W.Frag} {C : Addr} {H H' : Hp} {x : Addr} {o : HO} {xs : List V} {us : List RowU} (t : PsAt K C H xs us) (k : Kp x H H') (e : H x = some o) (nt : isT o = false) (nl : ∀ l, o ≠ .lst l) (ni : ∀ C' dx fs, o = .ins C' dx fs → C' ≠ C) : PsAt K C H' xs us := by
  induction t with
  | nil => exact .nil
  | cons h _ ih =>
    refine .cons ?_ ih
    obtain ⟨⟨dx, pv, bv, pa, ka, wa, ua, xs, ws, us, h1, h2, h3, h4, h5, h6, h7, h8, h9, h10⟩, b, c, d, e', f, g⟩ := h
    have tk := k.tk e nt
    refine ⟨⟨dx, pv, bv, pa, ka, wa, ua, xs, ws, us, k _ _ (fun z => ?_) h1, Dp.tk tk (pars_noL _) h2, Dp.tk tk (Tm.noL _) h3, k _ _ (fun z => ?_) h4, DpAll.tk tk (noL_datas _) h5, Dp.tk tk (kindD_noL _) h6, Dp.tk tk (strs_noL _) h7, Dp.tk tk (strs_noL _) h8, h9, h10⟩, b, c, d, e', f, g⟩
    · rw [z, e] at h1
      exact ni _ _ _ (Option.some.inj h1) rfl
    · rw [z, e] at h4
      exact nl _ (Option.some.inj h4)
theorem uniq_put (m : List Str) (z : Str) : addS (uniq m) z = uniq (m ++ [z]) := (uniq_more m z).symm
theorem words_more {us : List RowU} {i : Nat} {u : RowU} (h : us[i]? = some u) (z : Str) : z ∈ wordsOf (us.take (i + 1)) ↔ z ∈ wordsOf (us.take i) ∨ z ∈ u.2.2.all.filterMap wordOf := by
  unfold wordsOf
  rw [take_more h, List.map_append, List.flatten_append, List.mem_append]
  simp
theorem ranks_of {l m ys : List Str} (p : ys.Perm (uniq m)) (s : sortedS ys = true) (h : ∀ z, z ∈ m ↔ z ∈ l) : Ranks l ys := by
  refine ⟨p.trans ((List.perm_ext_iff_of_nodup (uniq_nodup m) (uniq_nodup l)).mpr fun z => ?_), s⟩
  rw [uniq_mem, uniq_mem, h]
theorem ranks_nd {l ys : List Str} (n : l.Nodup) (p : ys.Perm l) (s : sortedS ys = true) : Ranks l ys := by
  refine ⟨p.trans ((List.perm_ext_iff_of_nodup n (uniq_nodup l)).mpr fun z => ?_), s⟩
  rw [uniq_mem]
theorem Ranks.few {l ys : List Str} (r : Ranks l ys) : ys.length ≤ l.length := by
  rw [r.1.length_eq]
  exact uniq_len l
theorem ByV.keys {kvs : List (Key × V)} {xs : List V} {us : List RowU} (t : ByV kvs xs us) : kvs.map (·.1) = (us.map (·.1)).map Sum.inr := by
  induction t with
  | nil => rfl
  | cons r ih => rw [List.map_cons, ih]; rfl
theorem ByV.app {kvs : List (Key × V)} {xs : List V} {us : List RowU} (t : ByV kvs xs us) (u : RowU) (a : Addr) : ByV (kvs ++ [(Sum.inr u.1, .ref a)]) (xs ++ [.ref a]) (us ++ [u]) := by
  induction t with
  | nil => exact .cons .nil
  | cons r ih => exact .cons ih
theorem ByV.put {kvs : List (Key × V)} {xs : List V} {us : List RowU} (t : ByV kvs xs us) {u : RowU} {a : Addr} (n : u.1 ∉ us.map (·.1)) : ByV (putK kvs (Sum.inr u.1) (.ref a)) (xs ++ [.ref a]) (us ++ [u]) := by
  rw [putK_new (fun z => n (by rw [t.keys] at z; exact inr_mem z))]
  exact t.app u a
theorem ByV.len {kvs : List (Key × V)} {xs : List V} {us : List RowU} (t : ByV kvs xs us) : kvs.length = us.length := by
  induction t with
  | nil => rfl
  | cons _ ih => rw [List.length_cons, List.length_cons, ih]
end FS
set_option Elab.async false
set_option linter.all false
set_option maxRecDepth 100000
set_option maxHeartbeats 4000000
/-! what is no program: promises that tell either way -/
namespace FS
open PySem PySem.Spec PyProof.Rows L2
theorem int_dec (a b : Int) : decide (V.int a = V.int b) = decide (a = b) := by
  by_cases h : a = b <;> simp [h]
def tbOf (us : List RowU) : Tbl := us.map fun u => (u.1, u.2.1)
theorem KV.getN {K : PySem.W.Frag} {H : Hp} {kvs : List (Key × V)} {us : List RowU} (t : KV K H kvs us) {x : Str} (h : (tbOf us).lookup x = none) : valV kvs (Sum.inr x) = none := by
  induction t with
  | nil => rfl
  | @cons v u kvs us hd r ih =>
    unfold tbOf at h
    rw [List.map_cons] at h
    simp only [List.lookup] at h
    by_cases e : u.1 = x
    · have eb : (x == u.1) = true := by rw [e]; exact beq_self_eq_true x
      rw [eb] at h
      cases h
    · have eb : (x == u.1) = false := by simpa using fun z : x = u.1 => e z.symm
      rw [eb] at h
      rw [valV_neg (fun z => e (Sum.inr.inj z))]
      exact ih h
/-- what the dict of kinds tells of a name -/
def lookD (us : List RowU) (x : Str) : PyData := match (tbOf us).lookup x with | none => .none | some o => kindD o
theorem lookD_noL (us : List RowU) (x : Str) : noL (lookD us x) = true := by
  unfold lookD
  cases (tbOf us).lookup x with
  | none => rfl
  | some o => exact kindD_noL o
theorem lookD_shaped (us : List RowU) (x : Str) : SeqAt.shaped (lookD us x) = true := by
  unfold lookD
  cases (tbOf us).lookup x with
  | none => decide
  | some o =>
    show SeqAt.shaped (kindD o) = true
    rw [kindD_eq]
    exact kinds_shaped _
theorem KV.look {K : PySem.W.Frag} {H : Hp} {kvs : List (Key × V)} {us : List RowU} (t : KV K H kvs us) (x : Str) : ∃ g : Option V, valV kvs (Sum.inr x) = g ∧ Dp K H (g.getD .non) (lookD us x) := by
  unfold lookD
  cases e : (tbOf us).lookup x with
  | none => exact ⟨none, t.getN e, .non⟩
  | some o =>
    obtain ⟨v, h1, h2⟩ := t.get e
    exact ⟨some v, h1, h2⟩
theorem kinds_eqvB : ∀ as bs : List Bool, PyData.eqv (kindsD as) (kindsD bs) = decide (as = bs) := fun as bs => by
  show PyData.eqvAll (as.map fun b => .str (kd b)) (bs.map fun b => .str (kd b)) = _
  induction as generalizing bs with
  | nil => cases bs <;> rfl
  | cons a r ih =>
    cases bs with
    | nil => rfl
    | cons b q =>
      show ((kd a == kd b) && PyData.eqvAll _ _) = _
      rw [ih]
      by_cases e : a = b
      · subst e
        simp
      · have : (kd a == kd b) = false := by
          simpa using fun z => e (kd_inj z)
        rw [this]
        simp [e]
theorem look_main (us : List RowU) (x : Str) : PyData.eqv (lookD us x) (.tuple []) = decide ((tbOf us).lookup x = some []) := by
  unfold lookD
  cases (tbOf us).lookup x with
  | none => rfl
  | some o =>
    cases o with
    | nil => rfl
    | cons p r => rfl
theorem look_eqv (us : List RowU) (x : Str) (bs : List Bool) : PyData.eqv (lookD us x) (kindsD bs) = decide (((tbOf us).lookup x).map (fun o => o.map (·.2)) = some bs) := by
  unfold lookD
  cases (tbOf us).lookup x with
  | none => rfl
  | some o =>
    show PyData.eqv (kindD o) (kindsD bs) = _
    rw [kindD_eq, kinds_eqvB]
    simp
def spFitsG (K : PySem.W.Frag) : Sp := fun vs H Q _ => ∃ (own : List (Str × Bool)) (v : V) (t : Tm) (m : Int) (ka : Addr) (kvs : List (Key × V)) (us : List RowU), vs = [v, .int m, .ref ka] ∧ Dp K H v t.data ∧ Good own t ∧ ParOk own ∧ t.deep ≤ 6 ∧ t.kids.length ≤ 40 ∧ 1 ≤ m ∧ m ≤ 3 ∧ H ka = some (.dK kvs) ∧ KV K H kvs us ∧
  ∀ H', Same H H' → Q (.bl (fitH m (tbOf us) t.hd (t.kids.map Tm.isW))) H'
/-- the names differ -/
def ndB (us : List RowU) : Bool := decide ((us.map (·.1)).Nodup)
def spByNameG (K : PySem.W.Frag) (C : Addr) : Sp := fun vs H Q _ => ∃ (p : Addr) (xs : List V) (us : List RowU), vs = [.ref p] ∧ SqT K H p xs ∧ PsAt K C H xs us ∧ us.length ≤ 8 ∧ ∀ H' q kvs, Same H H' → H' q = some (.dK kvs) → ((us.map (·.1)).Nodup → KV K H' kvs us) → (¬ (us.map (·.1)).Nodup → kvs.length < us.length) → Q (.ref q) H'
/-- the keys are the names, each once -/
inductive NamesIn : List (Key × V) → List RowU → Prop
  | mk {kvs : List (Key × V)} {us : List RowU} (k : ∃ ns : List Str, kvs.map (·.1) = ns.map Sum.inr ∧ ns.Nodup ∧ ∀ x, x ∈ ns ↔ x ∈ us.map (·.1)) : NamesIn kvs us
theorem NamesIn.nil : NamesIn [] [] := .mk ⟨[], rfl, .nil, fun _ => Iff.rfl⟩
theorem keys_old {kvs : List (Key × V)} {k : Key} {v : V} (h : k ∈ kvs.map (·.1)) : (putK kvs k v).map (·.1) = kvs.map (·.1) := by
  unfold putK
  have e : (kvs.any fun kv => decide (kv.1 = k)) = true := by
    obtain ⟨kv, h1, h2⟩ := List.mem_map.mp h
    exact List.any_eq_true.mpr ⟨kv, h1, decide_eq_true h2⟩
  rw [if_pos e, List.map_map]
  refine List.map_congr_left fun kv _ => ?_
  show (if kv.1 = k then (kv.1, v) else kv).1 = kv.1
  by_cases z : kv.1 = k
  · rw [if_pos z]
  · rw [if_neg z]
theorem keys_new {kvs : List (Key × V)} {k : Key} {v : V} (h : k ∉ kvs.map (·.1)) : (putK kvs k v).map (·.1) = kvs.map (·.1) ++ [k] := by
  rw [putK_new h, List.map_append]
  rfl
theorem NamesIn.put {kvs : List (Key × V)} {us : List RowU} (n : NamesIn kvs us) {u : RowU} {v : V} : NamesIn (putK kvs (Sum.inr u.1) v) (us ++ [u]) := by
  obtain ⟨ns, h1, h2, h3⟩ := n
  by_cases z : (Sum.inr u.1 : Key) ∈ kvs.map (·.1)
  · have e := keys_old (v := v) z
    refine .mk ⟨ns, e.trans h1, h2, fun x => ?_⟩
    rw [h1] at z
    have m := (h3 _).mp (inr_mem z)
    rw [h3, List.map_append, List.mem_append]
    refine ⟨.inl, fun q => q.elim id fun q => ?_⟩
    rw [List.mem_singleton.mp q]
    exact m
  · have e := keys_new (v := v) z
    rw [h1] at z
    have m : u.1 ∉ ns := fun q => z (List.mem_map.mpr ⟨_, q, rfl⟩)
    refine .mk ⟨ns ++ [u.1], by rw [e, h1, List.map_append]; rfl, ?_, fun x => ?_⟩
    · exact List.nodup_append.mpr ⟨h2, List.nodup_cons.mpr ⟨List.not_mem_nil, .nil⟩, fun a ha b hb z => m (by rw [List.mem_singleton.mp hb] at z; exact z ▸ ha)⟩
    · rw [List.mem_append, List.map_append, List.mem_append, h3]
      exact Iff.rfl
theorem nodup_sub : ∀ {ns ms : List Str}, ns.Nodup → (∀ x, x ∈ ns → x ∈ ms) → ns.length ≤ ms.length
  | [], _, _, _ => Nat.zero_le _
  | x :: r, ms, n, s => by
    obtain ⟨n1, n2⟩ := List.nodup_cons.mp n
    have h := s x List.mem_cons_self
    have := nodup_sub (ns := r) (ms := ms.erase x) n2 fun y hy => (List.mem_erase_of_ne (fun z => n1 (by rw [← z]; exact hy))).mpr (s y (List.mem_cons_of_mem _ hy))
    rw [List.length_erase_of_mem h] at this
    have := List.length_pos_of_mem h
    rw [List.length_cons]
    omega
theorem nodup_eq : ∀ {ns ms : List Str}, ns.Nodup → (∀ x, x ∈ ns → x ∈ ms) → ms.length ≤ ns.length → ms.Nodup
  | [], ms, _, _, l => by
    have : ms = [] := List.eq_nil_of_length_eq_zero (Nat.le_zero.mp l)
    rw [this]
    exact .nil
  | x :: r, ms, n, s, l => by
    obtain ⟨n1, n2⟩ := List.nodup_cons.mp n
    have h := s x List.mem_cons_self
    have sr : ∀ y, y ∈ r → y ∈ ms.erase x := fun y hy => (List.mem_erase_of_ne (fun z => n1 (by rw [← z]; exact hy))).mpr (s y (List.mem_cons_of_mem _ hy))
    have le : (ms.erase x).length ≤ r.length := by
      rw [List.length_erase_of_mem h]
      rw [List.length_cons] at l
      omega
    have m := nodup_eq n2 sr le
    refine (List.perm_cons_erase h).nodup_iff.mpr (List.nodup_cons.mpr ⟨fun z => ?_, m⟩)
    have := nodup_sub n (ms := ms.erase x) fun y hy => by
      rcases List.mem_cons.mp hy with e | e
      · rw [e]
        exact z
      · exact sr y e
    rw [List.length_cons] at this
    omega
theorem NamesIn.le {kvs : List (Key × V)} {us : List RowU} (n : NamesIn kvs us) : kvs.length ≤ us.length := by
  obtain ⟨ns, h1, h2, h3⟩ := n
  have e : kvs.length = ns.length := by
    have := congrArg List.length h1
    rwa [List.length_map, List.length_map] at this
  have := nodup_sub h2 (ms := us.map (·.1)) fun x h => (h3 x).mp h
  rw [List.length_map] at this
  omega
theorem NamesIn.lt {kvs : List (Key × V)} {us : List RowU} (n : NamesIn kvs us) (h : ¬ (us.map (·.1)).Nodup) : kvs.length < us.length := by
  have l := n.le
  obtain ⟨ns, h1, h2, h3⟩ := n
  have e : kvs.length = ns.length := by
    have := congrArg List.length h1
    rwa [List.length_map, List.length_map] at this
  rcases Nat.lt_or_ge kvs.length us.length with z | z
  · exact z
  · refine absurd ?_ h
    exact nodup_eq h2 (ms := us.map (·.1)) (fun x hx => (h3 x).mp hx) (by rw [List.length_map]; omega)
def arePsB (us : List RowU) : Bool := decide (us.length ≤ 8) && ndB us && decide ((tbOf us).lookup ("main" : Str) = some [])
theorem Knd.sm {H H' : Hp} {a : Addr} {v : V} (k : Knd H a v) (e : Same H H') : Knd H' a v := by
  cases k with
  | non => exact .non
  | bl b => exact .bl b
  | int i => exact .int i
  | str z h h2 => exact .str z h h2
  | tup n h => exact .tup n (e _ _ h)
  | lst n h => exact .lst n (e _ _ h)
  | dct n h => exact .dct n (e _ _ h)
/-- procedures, with something that is none among them -/
inductive Mixed (K : PySem.W.Frag) (C D : Addr) (H : Hp) : List V → Bool → Prop
  | nil : Mixed K C D H [] true
  | prc {a : Addr} {nm : Str} {own : List (Str × Bool)} {t : Tm} {xs : List V} {b : Bool} (h : PAt K C H a nm own t) (k : Mixed K C D H xs b) : Mixed K C D H (.ref a :: xs) b
  | odd {v : V} {xs : List V} {b : Bool} (h : Knd H D v) (k : Mixed K C D H xs b) : Mixed K C D H (v :: xs) false
theorem Mixed.same {K : PySem.W.Frag} {C D : Addr} {H H' : Hp} {xs : List V} {b : Bool} (x : Mixed K C D H xs b) (s : Same H H') : Mixed K C D H' xs b := by
  induction x with
  | nil => exact .nil
  | prc h _ ih => exact .prc (h.same s) ih
  | odd h _ ih => exact .odd (h.sm s) ih
theorem Mixed.ps {K : PySem.W.Frag} {C D : Addr} {H : Hp} {xs : List V} (x : Mixed K C D H xs true) : ∃ us, PsAt K C H xs us := by
  generalize hb : true = b at x
  induction x with
  | nil => exact ⟨[], .nil⟩
  | prc h _ ih =>
    obtain ⟨us, k⟩ := ih hb
    exact ⟨(_, _, _) :: us, .cons h k⟩
  | odd => cases hb
theorem Mixed.flags {K : PySem.W.Frag} {C D : Addr} {H : Hp} {xs : List V} {b : Bool} (x : Mixed K C D H xs b) : ∃ fs : List Bool, fs.length = xs.length ∧ fs.all id = b ∧ ∀ (i : Nat) (v : V) (f : Bool), xs[i]? = some v → fs[i]? = some f → (f = true ∧ ∃ a nm own t, v = .ref a ∧ PAt K C H a nm own t) ∨ (f = false ∧ Knd H D v) := by
  induction x with
  | nil => exact ⟨[], rfl, rfl, fun i v f h => by simp at h⟩
  | @prc a nm own t xs b h _ ih =>
    obtain ⟨fs, h1, h2, h3⟩ := ih
    refine ⟨true :: fs, by rw [List.length_cons, List.length_cons, h1], by rw [List.all_cons, h2]; rfl, fun i v f hv hf => ?_⟩
    cases i with
    | zero =>
      cases hv
      cases hf
      exact .inl ⟨rfl, a, nm, own, t, rfl, h⟩
    | succ i => exact h3 i v f hv hf
  | @odd v xs b h _ ih =>
    obtain ⟨fs, h1, h2, h3⟩ := ih
    refine ⟨false :: fs, by rw [List.length_cons, List.length_cons, h1], by rw [List.all_cons]; rfl, fun i v f hv hf => ?_⟩
    cases i with
    | zero =>
      cases hv
      cases hf
      exact .inr ⟨rfl, h⟩
    | succ i => exact h3 i v f hv hf
/-- what is asked whether it makes a program: procedures, or with something else among them -/
inductive Given (K : PySem.W.Frag) (C D : Addr) (H : Hp) (xs : List V) : Option (List RowU) → Prop
  | ps {us : List RowU} (h : PsAt K C H xs us) : Given K C D H xs (some us)
  | odd (h : Mixed K C D H xs false) : Given K C D H xs none
theorem Given.same {K : PySem.W.Frag} {C D : Addr} {H H' : Hp} {xs : List V} {o : Option (List RowU)} (x : Given K C D H xs o) (s : Same H H') : Given K C D H' xs o := by
  cases x with
  | ps h => exact .ps (h.same s)
  | odd h => exact .odd (h.same s)
theorem PsAt.mixed {K : PySem.W.Frag} {C D : Addr} {H : Hp} {xs : List V} {us : List RowU} (x : PsAt K C H xs us) : Mixed K C D H xs true := by
  induction x with
  | nil => exact .nil
  | cons h _ ih => exact .prc h ih
def areB : Option (List RowU) → Bool
  | none => false
  | some us => arePsB us
def spArePsG (K : PySem.W.Frag) (C : Addr) : Sp := fun vs H Q _ => ∃ (p D : Addr) (xs : List V) (o : Option (List RowU)), vs = [.ref p] ∧ SqT K H p xs ∧ Given K C D H xs o ∧ xs.length ≤ 100 ∧ ∀ H', Same H H' → Q (.bl (areB o)) H'
/-- a number of modes, or something else -/
inductive ModV : V → Option Int → Prop
  | int (i : Int) : ModV (.int i) (some i)
  | bl (b : Bool) : ModV (.bl b) none
  | non : ModV .non none
def modB : Option Int → Int → Int → Bool
  | none, _, _ => false
  | some i, a, b => decide (a ≤ i) && decide (i ≤ b)
def spIntInG : Sp := fun vs H Q _ => ∃ (v : V) (o : Option Int) (a b : Int), vs = [v, .int a, .int b] ∧ ModV v o ∧ Q (.bl (modB o a b)) H
def fitT (m : Int) (us : List RowU) (t : Tm) : Bool := fitH m (tbOf us) t.hd (t.kids.map Tm.isW)
def partsIn (us : List RowU) : List Tm := us.flatMap fun u => u.2.2.all
def partsFit (m : Int) (us : List RowU) : Bool := (partsIn us).all (fitT m us)
theorem parts_more {us : List RowU} {i : Nat} {u : RowU} (h : us[i]? = some u) : partsIn (us.take (i + 1)) = partsIn (us.take i) ++ u.2.2.all := by
  unfold partsIn
  rw [take_more h, List.flatMap_append]
  simp
/-- a part that may be asked whether it fits -/
def PTG (t : Tm) : Prop := ∃ own, Good own t ∧ ParOk own ∧ t.deep ≤ 6 ∧ t.kids.length ≤ 40
theorem ptg_all {own : List (Str × Bool)} {t : Tm} (g : Good own t) (po : ParOk own) (d : t.deep ≤ 6) (c : t.count ≤ 40) : ∀ u ∈ t.all, PTG u := fun u hu => by
  obtain ⟨h1, h2⟩ := all_le t u hu
  have e := count_eq u
  have f := kids_few u.kids
  exact ⟨own, all_good g u hu, po, by omega, by omega⟩
/-- whether there is such a program -/
def canB : Option Int → Option (List RowU) → Bool
  | some m, some us => decide (1 ≤ m) && decide (m ≤ 3) && arePsB us && !(decide (2 < m) && wrapsIn us) && partsFit m us
  | _, _ => false
theorem canB_mod {m : Option Int} (o : Option (List RowU)) (h : modB m 1 3 = false) : canB m o = false := by
  cases m with
  | none => cases o <;> rfl
  | some i =>
    cases o with
    | none => rfl
    | some us =>
      show (decide (1 ≤ i) && decide (i ≤ 3) && _ && _ && _) = false
      rw [show (decide (1 ≤ i) && decide (i ≤ 3)) = false from h]
      rfl
theorem canB_are (i : Int) {o : Option (List RowU)} (h : areB o = false) : canB (some i) o = false := by
  cases o with
  | none => rfl
  | some us =>
    show (_ && _ && arePsB us && _ && _) = false
    rw [show arePsB us = false from h, Bool.and_false]
    rfl
theorem canB_wr {i : Int} (us : List RowU) (h : 2 < i) (w : wrapsIn us = true) : canB (some i) (some us) = false := by
  show (_ && _ && arePsB us && !(decide (2 < i) && wrapsIn us) && _) = false
  rw [decide_eq_true h, w]
  simp
theorem canB_fit {i : Int} {us : List RowU} (h : modB (some i) 1 3 = true) (a : areB (some us) = true) (w : (decide (2 < i) && wrapsIn us) = false) : canB (some i) (some us) = partsFit i us := by
  show (decide (1 ≤ i) && decide (i ≤ 3) && arePsB us && !(decide (2 < i) && wrapsIn us) && _) = _
  rw [show (decide (1 ≤ i) && decide (i ≤ 3)) = true from h, show arePsB us = true from a, w]
  rfl
theorem areB_parts {us : List RowU} (a : areB (some us) = true) : us.length ≤ 8 ∧ (us.map (·.1)).Nodup ∧ (tbOf us).lookup ("main" : Str) = some [] := by
  obtain ⟨h1, h3⟩ := Bool.and_eq_true_iff.mp (show (decide (us.length ≤ 8) && decide ((us.map (·.1)).Nodup) && decide ((tbOf us).lookup ("main" : Str) = some [])) = true from a)
  obtain ⟨h1, h2⟩ := Bool.and_eq_true_iff.mp h1
  exact ⟨of_decide_eq_true h1, of_decide_eq_true h2, of_decide_eq_true h3⟩
def spCanG (K : PySem.W.Frag) (C : Addr) : Sp := fun vs H Q _ => ∃ (p D : Addr) (v : V) (m : Option Int) (xs : List V) (o : Option (List RowU)), vs = [v, .ref p] ∧ ModV v m ∧ SqT K H p xs ∧ Given K C D H xs o ∧ xs.length ≤ 100 ∧ ∀ H', Same H H' → Q (.bl (canB m o)) H'
end FS
set_option Elab.async false
set_option linter.all false
set_option maxRecDepth 100000
set_option maxHeartbeats 4000000
/-! a program is made, or refused -/
namespace FS
open PySem PySem.Spec PyProof.Rows L2
/-- the error of what is no program -/
structure Bad (K : PySem.W.Frag) (mg : Str → Option Value) (CI : Addr) : Prop where
  gI : mg "InvalidProgram" = some (.ref CI)
  kI : PySem.W.keepIn K (.ref CI) = true
  xI : PySem.W.excIn K CI [.type "ValueError", .type "Exception", .type "BaseException", .type "object"] "ValueError.__new__" = true
  bI : PySem.W.subIn K (.ref CI) (.type "BaseException") = some true
  tI : PySem.W.typeIn K (.ref CI) = some (.type "type")
  eI : PySem.W.exmOne K (.ref CI) (.ref CI) = some true
section
variable {P : Program} {w : World} {K : PySem.W.Frag} {mg : Str → Option Value} {base : Heap}
/-- a def with a star parameter behind the others, that may raise -/
theorem okStarX {x qual : Str} {st : Stmt} {f : Addr} {fd : FuncData} {N ps : List Str} {pv : Str} {k : Nat} {sp : Sp} (F : Fun K x qual st f fd) (S : FnScope N (ps ++ [pv]) (defScope st))
    (bind : ∀ (kV doc pm : Value) (an : Option Addr) (cdv ct : Value) (us rest : List Value), us.length = ps.length → bindArgs (PySem.W.fnOf x qual (defArgs st) (defBody st) (defScope st) .none kV doc pm an cdv ct) ⟨us ++ rest, []⟩ = (newTuple rest >>= fun t => pure (ps.zip us ++ [(pv, t)])))
    (body : ∀ (cdv : Value) (A : Around) (outer : List Env) (s : Shared) (H : Hp) (vs : List V) (Q : VK) (E : XK), Room k (A.deeper (envOfC qual (defScope st) s.heap.objs.size f cdv)) → sp vs H Q E →
      ∃ t, PSs (cxOf (L2.CX P w) P w K mg base N qual (defScope st) f cdv A outer s H E) (defBody st) t ∧ t { nx := fun _ H' => Q .non H', rt := Q } (start N vs) H) :
    FnR P w K mg base (L2.CX P w) (k + 1) f (fun vs H Q E => ∃ ws rest, vs = ws ++ rest ∧ ws.length = ps.length ∧ rest.length ≤ sizeLine ∧ ∀ p, H p = Option.none → sp (ws ++ [V.ref p]) (upd H p (.tup rest)) Q E) := by
  obtain ⟨oc, od, kV, doc, pm, an, cdv, ct, osl, rfl, lk, hcd⟩ := F.ex
  exact StX.fn_star lk hcd S StX.cxUp (bind kV doc pm an cdv ct) fun A outer s H vs Q E hr h => body cdv A outer s H vs Q E hr h
end
/-- a program, with the very procedures it was made of -/
def PgX (K : PySem.W.Frag) (CP C : Addr) (H : Hp) (a : Addr) (m : Int) (us : List RowU) (xs : List V) : Prop :=
  ∃ (dx pv dv nv wv : Addr) (kvs : List (Key × V)) (ns ws : List Str), H a = some (.ins CP dx (pgF m pv dv nv wv (wrapsIn us))) ∧ SqT K H pv xs ∧ PsAt K C H xs us ∧ us.length ≤ 8 ∧ H dv = some (.dK kvs) ∧ ByV kvs xs us ∧
    Dp K H (.ref nv) (strsD ns) ∧ Ranks (us.map (·.1)) ns ∧ Dp K H (.ref wv) (strsD ws) ∧ Ranks (wordsOf us) ws ∧ 1 ≤ m ∧ m ≤ 3
theorem PgX.at_ {K : PySem.W.Frag} {CP C : Addr} {H : Hp} {a : Addr} {m : Int} {us : List RowU} {xs : List V} (p : PgX K CP C H a m us xs) : PgAt K CP C H a m us := by
  obtain ⟨dx, pv, dv, nv, wv, kvs, ns, ws, h⟩ := p
  exact ⟨dx, pv, dv, nv, wv, xs, kvs, ns, ws, h⟩
def spPgInitG (K : PySem.W.Frag) (CP C CI : Addr) : Sp := fun vs H Q E => ∃ (x dx D : Addr) (v : V) (m : Option Int) (xs : List V) (o : Option (List RowU)), vs = .ref x :: v :: xs ∧ H x = some (.ins CP dx []) ∧ ModV v m ∧ Given K C D H xs o ∧ xs.length ≤ 100 ∧
  (∀ i us, m = some i → o = some us → canB m o = true → ∀ H', PgX K CP C H' x i us xs → Kp x H H' → Q .non H') ∧ (canB m o = false → ∀ H', Same H H' → E (.ref CI) none H')
def spPgInG (K : PySem.W.Frag) (CP C CI : Addr) : Sp := fun vs H Q E => ∃ (x dx D : Addr) (v : V) (m : Option Int) (p : Addr) (xs : List V) (o : Option (List RowU)), vs = [.ref x, v, .ref p] ∧ H x = some (.ins CP dx []) ∧ H p = some (.tup xs) ∧ ModV v m ∧ Given K C D H xs o ∧ xs.length ≤ 100 ∧
  (∀ i us, m = some i → o = some us → canB m o = true → ∀ H', PgX K CP C H' x i us xs → Kp x H H' → Q .non H') ∧ (canB m o = false → ∀ H', Same H H' → E (.ref CI) none H')
theorem init_inG {K : PySem.W.Frag} {CP C CI : Addr} {vs : List V} {H : Hp} {Q : VK} {E : XK} (h : spPgInitG K CP C CI vs H Q E) : ∃ ws rest, vs = ws ++ rest ∧ ws.length = 2 ∧ rest.length ≤ sizeLine ∧ ∀ p, H p = Option.none → spPgInG K CP C CI (ws ++ [V.ref p]) (upd H p (.tup rest)) Q E := by
  obtain ⟨x, dx, D, v, m, xs, o, rfl, hx, mv, gv, l100, q, qe⟩ := h
  refine ⟨[.ref x, v], xs, rfl, rfl, Nat.le_of_lt (small1000 (by omega)), fun p hp => ?_⟩
  have s1 : Same H (upd H p (.tup xs)) := same_upd hp
  exact ⟨x, dx, D, v, m, p, xs, o, rfl, s1 _ _ hx, upd_same, mv, gv.same s1, l100, fun i us e1 e2 c H' pa k => q i us e1 e2 c H' pa fun b u n hb => k b u n (s1 _ _ hb), fun c H' s => qe c H' (s1.trans s)⟩
theorem canB_true {m : Option Int} {o : Option (List RowU)} (h : canB m o = true) : ∃ i us, m = some i ∧ o = some us ∧ 1 ≤ i ∧ i ≤ 3 ∧ us.length ≤ 8 ∧ (us.map (·.1)).Nodup := by
  cases m with
  | none => cases o <;> cases h
  | some i =>
    cases o with
    | none => cases h
    | some us =>
      have h : (decide (1 ≤ i) && decide (i ≤ 3) && arePsB us && !(decide (2 < i) && wrapsIn us) && partsFit i us) = true := h
      simp only [Bool.and_eq_true, decide_eq_true_eq] at h
      obtain ⟨⟨⟨⟨h1, h2⟩, h3⟩, -⟩, -⟩ := h
      obtain ⟨f, n, -⟩ := areB_parts (us := us) h3
      exact ⟨i, us, rfl, rfl, h1, h2, f, n⟩
/-- no tuple -/
def Bent (K : PySem.W.Frag) (H : Hp) (v : V) : Prop := ∃ t, TyX K H v t ∧ PySem.W.kitOne K t (.type "tuple") = some false
def spPgOfG (K : PySem.W.Frag) (CP C CI : Addr) : Sp := fun vs H Q E => ∃ (v pv : V) (m : Option Int), vs = [.ref CP, v, pv] ∧ ModV v m ∧
  ((∃ (p D : Addr) (xs : List V) (o : Option (List RowU)), pv = .ref p ∧ SqT K H p xs ∧ Given K C D H xs o ∧ xs.length ≤ 100 ∧
    (∀ i us, m = some i → o = some us → canB m o = true → ∀ H' a, Same H H' → H a = none → PgX K CP C H' a i us xs → Q (.ref a) H') ∧ (canB m o = false → ∀ H', Same H H' → E (.ref CI) none H')) ∨
   (Bent K H pv ∧ E (.ref CI) none H))
end FS
set_option Elab.async false
set_option linter.all false
set_option maxRecDepth 100000
set_option maxHeartbeats 4000000
/-! tuples of objects with their own ==, either way -/
namespace FS.TupB
open PySem PySem.SeqAt GQ AutoSeq1 MeetsSeq MeetsSeq2 MeetsSeq3 SeqRoads2
section
variable {prog : Program} {w : World} {A : Around} {R : Result → Shared → Prop}
theorem tup_eqB (p q : Addr) (xs ys : Array Value) (nx ny : Nat) (dx dy : Option Addr) (zx zy : Array (Option Value)) (c : Nat → Bool) (J : Nat → Shared → Prop)
    (step : ∀ i (ix : i < xs.size) (iy : i < ys.size) s, J i s → wpAny (model prog w) A.in1 (eqBool xs[i] ys[i]) (fun r s1 => r = c i ∧ J (i + 1) s1) (fun e s1 => R (.error e) s1) s)
    (alike : ∀ s, J (min xs.size ys.size) s → (∀ j, j < min xs.size ys.size → c j = true) → R (.ok (.ret (.bool (xs.size == ys.size)))) s)
    (apart : ∀ i s, i < min xs.size ys.size → c i = false → J (i + 1) s → R (.ok (.ret (.bool false))) s)
    {s : Shared} (atP : s.heap.get? p = some { cls := .type "tuple", dict := dx, data := .seq xs nx, slots := zx })
    (atQ : s.heap.get? q = some { cls := .type "tuple", dict := dy, data := .seq ys ny, slots := zy }) (start : J 0 s) :
    wpAny (model prog w) A.in1 (Builtin.«tuple.__eq__» ⟨[.ref p, .ref q], []⟩) (FinOf prog w A R) (fun e s1 => R (.error e) s1) s := by
  have both := AutoSeq1.sub_tuple_tuple
  have many : (xs.toList.zip ys.toList).length = min xs.size ys.size := by simp
  have start0 := start
  obtain ⟨hp, gens, drawn, toks, os⟩ := s
  wp_walk using wpAny_loadPart' atP, wpAny_loadPart' atQ, wpAny_forIn_list _ (fun left b s1 => b.1 = none ∧ ∃ i, left = (xs.toList.zip ys.toList).drop i ∧ i ≤ min xs.size ys.size ∧ (∀ j, j < i → c j = true) ∧ J i s1) _
  case turn =>
    rintro ⟨one, two⟩ left b s1 ⟨none1, i, cut, le, past, now⟩
    have lt : i < (xs.toList.zip ys.toList).length := by
      rcases Nat.lt_or_ge i (xs.toList.zip ys.toList).length with z | z
      · exact z
      · rw [List.drop_of_length_le z] at cut; cases cut
    have lt2 : i < min xs.size ys.size := many ▸ lt
    have ix : i < xs.size := by omega
    have iy : i < ys.size := by omega
    rw [List.drop_eq_getElem_cons lt] at cut
    injection cut with pair tail
    have e1 : one = xs[i] := by have := congrArg Prod.fst pair; simpa using this
    have e2 : two = ys[i] := by have := congrArg Prod.snd pair; simpa using this
    subst e1 e2
    refine wpAny_bind (wpAny_mono (step i ix iy s1 now) (fun r s2 got => ?_) fun _ _ z => z)
    obtain ⟨rc, next⟩ := got
    cases hc : c i with
    | true =>
      rw [hc] at rc
      subst rc
      wp_walk
      refine ⟨rfl, i + 1, tail, lt2, fun j hj => ?_, next⟩
      rcases Nat.lt_succ_iff_lt_or_eq.mp hj with z | z
      · exact past j z
      · rw [z]; exact hc
    | false =>
      rw [hc] at rc
      subst rc
      have out : R (.ok (.ret (.bool false))) s2 := apart i s2 lt2 hc next
      obtain ⟨hp2, gens2, drawn2, toks2, os2⟩ := s2
      wp_walk
      exact out
  case fin =>
    rintro ⟨b1, b2⟩ s1 ⟨none1, i, cut, le, past, now⟩
    simp only at none1
    subst none1
    have ge : min xs.size ys.size ≤ i := by
      rcases Nat.lt_or_ge i (xs.toList.zip ys.toList).length with z | z
      · rw [List.drop_eq_getElem_cons z] at cut; cases cut
      · exact many ▸ z
    have ei : i = min xs.size ys.size := by omega
    subst ei
    have out := alike s1 now past
    wp_walk
    simpa [Builtin.Tuple.tupleCompareSizes] using out
  case h =>
    exact ⟨rfl, 0, rfl, Nat.zero_le _, fun j z => absurd z (Nat.not_lt_zero _), start0⟩
end
section
variable {prog : Program} {w : World} {A : Around} {E : Value → Shared → Prop} {s : Shared}
theorem rc_tupB {p q : Addr} {xs ys : Array Value} {Q : Value → Shared → Prop} (c : Nat → Bool) (room : A.units < cLine) (J : Nat → Shared → Prop) (tp : s.heap.IsTuple p xs) (tq : s.heap.IsTuple q ys)
    (step : ∀ i (ix : i < xs.size) (iy : i < ys.size) s, J i s → wpAny (model prog w) A.in1 (eqBool xs[i] ys[i]) (fun r s1 => r = c i ∧ J (i + 1) s1) E s)
    (alike : ∀ s, J (min xs.size ys.size) s → (∀ j, j < min xs.size ys.size → c j = true) → Q (.bool (xs.size == ys.size)) s)
    (apart : ∀ i s, i < min xs.size ys.size → c i = false → J (i + 1) s → Q (.bool false) s) (start : J 0 s) :
    wpAny (model prog w) A (richCompare .Eq (.ref p) (.ref q)) Q E s := by
  obtain ⟨⟨cp, ep, fp, zp⟩, atP, hp1, np, hp2⟩ := id tp
  obtain ⟨⟨cq, eq, fq, zq⟩, atQ, hq1, nq, hq2⟩ := id tq
  simp only at hp1 hp2 hq1 hq2
  subst hp1 hp2 hq1 hq2
  refine wpAny_richCompare_same_room (op := .Eq) ⟨_, atP, rfl⟩ ⟨_, atQ, rfl⟩ F.slot_tuple_eq (call_here F.slot_tuple_eq ⟨_, atP, rfl⟩ F.entry_tuple_eq (F.args_tuple_eq_2 _ _) ?_) room
  exact tup_eqB (R := wants (fun v s1 => v ≠ .notImplemented ∧ Q v s1) E) p q xs ys np nq ep eq zp zq c J step (fun s1 a b => ⟨(fun z => nomatch z), alike s1 a b⟩) (fun i s1 a b d => ⟨(fun z => nomatch z), apart i s1 a b d⟩) atP atQ start
end
end FS.TupB
namespace FS
open PySem PySem.Spec PyProof.Rows L2
def tri (u : RowU) : PyData := triD u.1 u.2.1 u.2.2
def prEq (u v : RowU) : Bool := PyData.eqv (tri u) (tri v)
/-- equal procedures in the same order -/
def rowsEq (us vs : List RowU) : Bool := PyData.eqvAll (us.map tri) (vs.map tri)
def cEq (us vs : List RowU) (i : Nat) : Bool := match us[i]?, vs[i]? with | some u, some v => prEq u v | _, _ => true
theorem rowsEq_all : ∀ (us vs : List RowU), (∀ j, j < min us.length vs.length → cEq us vs j = true) → rowsEq us vs = (us.length == vs.length)
  | [], [], _ => rfl
  | [], _ :: _, _ => rfl
  | _ :: _, [], _ => rfl
  | u :: us, v :: vs, h => by
    show (prEq u v && rowsEq us vs) = _
    have h0 := h 0 (by simp)
    rw [show prEq u v = true from h0, Bool.true_and, rowsEq_all us vs fun j hj => by
      have := h (j + 1) (by simp only [List.length_cons]; omega)
      simpa [cEq] using this]
    simp
theorem rowsEq_no : ∀ (us vs : List RowU) (i : Nat), i < min us.length vs.length → cEq us vs i = false → rowsEq us vs = false
  | [], _, _, h, _ => by simp at h
  | _ :: _, [], _, h, _ => by simp at h
  | u :: us, v :: vs, 0, _, c => by
    show (prEq u v && rowsEq us vs) = false
    rw [show prEq u v = false from c]
    rfl
  | u :: us, v :: vs, i + 1, h, c => by
    show (prEq u v && rowsEq us vs) = false
    rw [rowsEq_no us vs i (by simp only [List.length_cons] at h; omega) (by simpa [cEq] using c), Bool.and_false]
theorem prEq_eq (u v : RowU) : prEq u v = (u.1 == v.1 && PyData.eqv (parsD u.2.1) (parsD v.2.1) && PyData.eqv u.2.2.data v.2.2.data) := tri_eqv ..
theorem prEq_self {u : RowU} (po : ParOk u.2.1) (g : Good u.2.1 u.2.2) : prEq u u = true := by
  rw [prEq_eq]
  exact same_eqv po g
/-- at the same place the same object stands for the same procedure -/
def Apart (xs ys : List V) (us vs : List RowU) : Prop := ∀ (i : Nat) (a : Addr) (u v : RowU), xs[i]? = some (.ref a) → ys[i]? = some (.ref a) → us[i]? = some u → vs[i]? = some v → u = v
section
variable {X : Cx} {pins : List (Addr × Obj)} {σ : L2.St} {H : Hp} {s : Shared} {C : Addr}
theorem eq_atA {A : Around} {a b : Addr} {u v : RowU} (nf : PySem.W.notFirst X.K C (.ref C) = true) (G : PrG X.prog X.w X.K X.mg X.base C) (sb : Sub X 1 A) (I : Inv X pins σ H s) (pa : PAt X.K C H a u.1 u.2.1 u.2.2) (pb : PAt X.K C H b v.1 v.2.1 v.2.2) :
    wpAny (model X.prog X.w) A (richCompare .Eq (.ref a) (.ref b)) (fun z s1 => ∃ r, z = .bool r ∧ r = prEq u v ∧ Inv X pins σ H s1) X.xe s := by
  obtain ⟨f, fd, F, hb, hs, hf⟩ := G.eq
  obtain ⟨dx, _, _, _, _, _, _, _, _, _, ha, -⟩ := pa.ex
  obtain ⟨dy, _, _, _, _, _, _, _, _, _, hb2, -⟩ := pb.ex
  have ty : TyX X.K H (.ref b) (.ref C) := .base (.ins hb2 G.c.cl G.c.ha G.c.hn G.c.htk G.c.hm)
  have rb : RelV (V.ref b) (Value.ref b) := rfl
  obtain ⟨mA, J, _⟩ := ins_get I.hok ha
  obtain ⟨od, J, _⟩ := J.look
  obtain ⟨m, hF⟩ := I.fr
  refine PySem.W.cmp_K (op := .Eq) (tb := .ref C) sb.room.units0 hF I.ok.mod.kin J (looks_ty I rb ty) nf hs hf ?_
  have sp : spEqT X.K C [.ref a, .ref b] H (fun z H1 => z = .bl (prEq u v) ∧ H1 = H) E0 := ⟨a, _, u.1, u.2.1, u.2.2, rfl, pa, .inr ⟨b, v.1, v.2.1, v.2.2, rfl, pb, by rw [prEq_eq], rfl⟩⟩
  refine wpAny_mono (run_at sb I F hb pass0 (.cons (show RelV (V.ref a) (Value.ref a) from rfl) (.cons rb .nil)) sp) (fun z s1 h => ?_) fun _ _ z => z
  obtain ⟨q, H1, I1, rz, e1, e2⟩ := h
  subst e1 e2
  cases rz
  exact ⟨_, rfl, rfl, I1⟩
theorem nf_self {K : PySem.W.Frag} {C : Addr} : PySem.W.notFirst K C (.ref C) = true := by
  unfold PySem.W.notFirst
  rw [show ((Value.ref C == Value.ref C) = true) from by simp]
  rfl
theorem eq_same {M : Model} {A : Around} {a : Addr} {Q : Bool → Shared → Prop} {E : Value → Shared → Prop} {s : Shared} (h : Q true s) : wpAny M A (eqBool (.ref a) (.ref a)) Q E s := by
  unfold eqBool
  refine wpAny_holding (wpAny_ite_split (fun _ => ?_) fun z => absurd (show (Value.ref a == Value.ref a) = true by simp) z)
  exact wpAny_bind (wpAny_rule (wpAny_pure h))
/-- tuples of procedures, == -/
def rTupP (K : PySem.W.Frag) (C : Addr) : R2 := fun x y H Q => ∃ (p q : Addr) (xs ys : List V) (us vs : List RowU), x = .ref p ∧ y = .ref q ∧ SqT K H p xs ∧ SqT K H q ys ∧ PsAt K C H xs us ∧ PsAt K C H ys vs ∧ Apart xs ys us vs ∧ Q (.bl (rowsEq us vs)) H
theorem vals_at {xs : List V} {its : List Value} (r : Vals xs its) {i : Nat} (h : i < its.toArray.size) : ∃ v, xs[i]? = some v ∧ RelV v its.toArray[i] := by
  have l1 : i < its.length := by simpa using h
  have l2 : i < xs.length := by rw [r.length]; exact l1
  obtain ⟨u, hu, ru⟩ := r.get (List.getElem?_eq_getElem l2)
  rw [List.getElem?_eq_getElem l1] at hu
  refine ⟨_, List.getElem?_eq_getElem l2, ?_⟩
  have e : its.toArray[i] = u := by
    rw [← Option.some.inj hu]
    simp
  rw [e]
  exact ru
theorem op_eqT (G : PrG X.prog X.w X.K X.mg X.base C) (hr : Room 2 X.A) : OpR X (compareOp .Eq) (rTupP X.K C) := by
  intro pins s σ H x y v u Q I rx ry hq
  obtain ⟨p, q, xs, ys, us, vs, rfl, rfl, sp, sq, ps, pt, ap, qq⟩ := hq
  cases rx
  cases ry
  obtain ⟨its, rv, tp, _⟩ := I.tuple sp
  obtain ⟨jts, rw', tq, _⟩ := I.tuple sq
  have n1 : its.toArray.size = us.length := by rw [List.size_toArray, ← rv.length, ps.len]
  have n2 : jts.toArray.size = vs.length := by rw [List.size_toArray, ← rw'.length, pt.len]
  show wpAny (model X.prog X.w) X.A (richCompare .Eq (.ref p) (.ref q)) (EP X pins σ Q) X.xe s
  refine TupB.rc_tupB (cEq us vs) hr.units0 (fun _ s1 => Inv X pins σ H s1) tp tq (fun i ix iy s1 I1 => ?_) (fun s1 I1 al => ?_) (fun i s1 lt ci I1 => ?_) I
  · obtain ⟨x1, e1, r1⟩ := vals_at rv ix
    obtain ⟨y1, e2, r2⟩ := vals_at rw' iy
    obtain ⟨a, u, rfl, hu, pa⟩ := ps.get e1
    obtain ⟨b, v, rfl, hv, pb⟩ := pt.get e2
    have ec : cEq us vs i = prEq u v := by
      unfold cEq
      rw [hu, hv]
    rw [show its.toArray[i] = Value.ref a from r1, show jts.toArray[i] = Value.ref b from r2, ec]
    by_cases ab : a = b
    · subst ab
      have uv := ap i a u v e1 e2 hu hv
      subst uv
      exact eq_same ⟨(prEq_self pa.po pa.good).symm, I1⟩
    · refine GQ.eqBool_refG ab (wpAny_mono (eq_atA nf_self G (show Sub X 2 X.A from ⟨hr, rfl⟩).in1 I1 pa pb) (fun z s2 h => ?_) fun _ _ z => z)
      obtain ⟨r, e, f, I2⟩ := h
      exact ⟨r, e, f, I2⟩
  · rw [n1, n2] at al
    refine ⟨.bl (rowsEq us vs), H, I1, ?_, qq⟩
    rw [rowsEq_all us vs al, n1, n2]
    rfl
  · rw [n1, n2] at lt
    refine ⟨.bl (rowsEq us vs), H, I1, ?_, qq⟩
    rw [rowsEq_no us vs i lt ci]
    rfl
end
end FS
set_option Elab.async false
set_option linter.all false
set_option maxRecDepth 100000
set_option maxHeartbeats 4000000
/-! a lambda handed on: what is refused is None -/
set_option Elab.async false
set_option linter.all false
set_option maxRecDepth 100000
set_option maxHeartbeats 4000000
/-! programs compared -/
namespace FS
open PySem PySem.Spec PyProof.Rows L2
def spPgEq (K : PySem.W.Frag) (CP C : Addr) : Sp := fun vs H Q _ => ∃ (a : Addr) (y : V) (m : Int) (us : List RowU) (xs : List V), vs = [.ref a, y] ∧ PgX K CP C H a m us xs ∧
  ((∃ ty, TyX K H y ty ∧ PySem.W.kitOne K ty (.ref CP) = some false ∧ Q (.bl false) H) ∨
   (∃ (b : Addr) (m' : Int) (vs' : List RowU) (ys : List V), y = .ref b ∧ PgX K CP C H b m' vs' ys ∧ Apart xs ys us vs' ∧ Q (.bl (decide (m = m') && rowsEq us vs')) H))
end FS
set_option Elab.async false
set_option linter.all false
set_option maxRecDepth 100000
set_option maxHeartbeats 4000000
/-! own [], own in; an object that is in no tuple of texts -/
set_option Elab.async false
set_option linter.all false
set_option maxRecDepth 100000
set_option maxHeartbeats 4000000
set_option Elab.async false
set_option linter.all false
set_option maxRecDepth 100000
set_option maxHeartbeats 4000000
/-! what may be asked whether it is in a program -/
set_option Elab.async false
set_option linter.all false
set_option maxRecDepth 100000
set_option maxHeartbeats 4000000
/-! all that a caller needs of the class Program -/
namespace FS
open PySem PySem.Spec PyProof.Rows L2 StX ClX
section
variable {X : Cx} {CP C : Addr} {e eb : Expr} {es : List Expr} {ta tb : TE} {t : TA} {x g : Str} {p pos apos : Pos}
/-- a procedure made within a comprehension -/
theorem pe_mkPK {P : Program} {w : World} {K : PySem.W.Frag} {mg : Str → Option Value} {base : Heap} (G : PrG P w K mg base C) (h1 : X.prog = P) (h2 : X.w = w) (h3 : X.K = K) (h4 : X.mg = mg) (h5 : X.base = base) (hr : Room 10 X.A) (hg : Gl X "Procedure") (ha : PA X (e :: es) t) (he : starEach (e :: es) X.env = (false, eval e X.env) :: starEach es X.env := by rfl) (hpl : (backTo pos (starEach es X.env)).any (·.1) = false := by rfl) :
    PE X (.Call (.Name "Procedure" p) (e :: es) [] pos) (tMake C (spInit K C) [] E0 t) := by
  subst h1 h2 h3 h4 h5
  exact pe_mkP G hr hg ha he hpl
end
theorem look_mem {l : List (Str × List (Str × Bool))} {x : Str} {o : List (Str × Bool)} (h : l.lookup x = some o) : (x, o) ∈ l := by
  induction l with
  | nil => cases h
  | cons p r ih =>
    obtain ⟨y, q⟩ := p
    simp only [List.lookup] at h
    by_cases e : x = y
    · have eb : (x == y) = true := by rw [e]; exact beq_self_eq_true y
      rw [eb] at h
      cases Option.some.inj h
      rw [e]
      exact List.mem_cons_self
    · have eb : (x == y) = false := by simpa using e
      rw [eb] at h
      exact List.mem_cons_of_mem _ (ih h)
theorem RowsAt.get {K : PySem.W.Frag} {H : Hp} {m : Int} {tb : Tbl} {rs : List Addr} {us : List RowU} (x : RowsAt K H m tb rs us) : ∀ u ∈ us, ∃ r, RowAt K H m tb r u.1 u.2.1 u.2.2 := by
  induction x with
  | nil => intro u hu; cases hu
  | cons h _ ih =>
    intro u hu
    rcases List.mem_cons.mp hu with e | hu
    · rw [e]
      exact ⟨_, h⟩
    · exact ih u hu
/-- procedures whose parts are not at D -/
inductive PsAtD (K : PySem.W.Frag) (C : Addr) (H : Hp) (D : Addr) : List V → List RowU → Prop
  | nil : PsAtD K C H D [] []
  | cons {a : Addr} {u : RowU} {xs : List V} {us : List RowU} (h : PAtD K C H D a u.1 u.2.1 u.2.2) (k : PsAtD K C H D xs us) : PsAtD K C H D (.ref a :: xs) (u :: us)
theorem PsAtD.kp {K : PySem.W.Frag} {C : Addr} {H H' : Hp} {D : Addr} {xs : List V} {us : List RowU} (x : PsAtD K C H D xs us) (k0 : Kp D H H') (k : TK H H') : PsAtD K C H' D xs us := by
  induction x with
  | nil => exact .nil
  | cons h _ ih => exact .cons (h.kp k0 k) ih
theorem PsAtD.ps {K : PySem.W.Frag} {C : Addr} {H : Hp} {D : Addr} {xs : List V} {us : List RowU} (x : PsAtD K C H D xs us) : PsAt K C H xs us := by
  induction x with
  | nil => exact .nil
  | cons h _ ih => exact .cons h.pat ih
theorem PsAtD.app {K : PySem.W.Frag} {C : Addr} {H : Hp} {D : Addr} {xs : List V} {us : List RowU} (x : PsAtD K C H D xs us) {a : Addr} {u : RowU} (h : PAtD K C H D a u.1 u.2.1 u.2.2) : PsAtD K C H D (xs ++ [.ref a]) (us ++ [u]) := by
  induction x with
  | nil => exact .cons h .nil
  | cons k _ ih => exact .cons k ih
theorem RowsAt.at {K : PySem.W.Frag} {H : Hp} {m : Int} {tb : Tbl} {rs : List Addr} {us : List RowU} (x : RowsAt K H m tb rs us) {i : Nat} {v : V} (e : (rs.map V.ref)[i]? = some v) : ∃ r u, v = .ref r ∧ us[i]? = some u ∧ RowAt K H m tb r u.1 u.2.1 u.2.2 := by
  induction x generalizing i with
  | nil => cases e
  | @cons r u rs us h k ih =>
    cases i with
    | zero => cases e; exact ⟨r, u, rfl, rfl, h⟩
    | succ i => exact ih e
end FS
set_option Elab.async false
set_option linter.all false
set_option maxRecDepth 100000
set_option maxHeartbeats 4000000
/-! rows, whatever they make -/
namespace FS
open PySem PySem.Spec PyProof.Rows L2
/-- a row of a right procedure -/
structure RowG (K : PySem.W.Frag) (H : Hp) (r : Addr) (u : RowU) : Prop where
  ex : ∃ ov bv, H r = some (.lst [.str u.1, ov, bv]) ∧ Dp K H ov (parsD u.2.1) ∧ Dp K H bv u.2.2.data
  po : ParOk u.2.1
  wd : wordB u.1 = true
  good : Good u.2.1 u.2.2
  nw : u.2.2.isW = false
  few : u.2.2.count ≤ 40
  low : u.2.2.deep ≤ 6
theorem RowG.same {K : PySem.W.Frag} {H H' : Hp} {r : Addr} {u : RowU} (x : RowG K H r u) (s : Same H H') : RowG K H' r u := by
  obtain ⟨⟨ov, bv, h1, h2, h3⟩, a, b, c, d, e, f⟩ := x
  exact ⟨⟨ov, bv, s _ _ h1, Dp.tk (.of s) (pars_noL _) h2, Dp.tk (.of s) (Tm.noL _) h3⟩, a, b, c, d, e, f⟩
inductive RowsG (K : PySem.W.Frag) (H : Hp) : List Addr → List RowU → Prop
  | nil : RowsG K H [] []
  | cons {r : Addr} {u : RowU} {rs : List Addr} {us : List RowU} (h : RowG K H r u) (k : RowsG K H rs us) : RowsG K H (r :: rs) (u :: us)
theorem RowsG.same {K : PySem.W.Frag} {H H' : Hp} {rs : List Addr} {us : List RowU} (x : RowsG K H rs us) (s : Same H H') : RowsG K H' rs us := by
  induction x with
  | nil => exact .nil
  | cons h _ ih => exact .cons (h.same s) ih
theorem RowsG.len {K : PySem.W.Frag} {H : Hp} {rs : List Addr} {us : List RowU} (x : RowsG K H rs us) : rs.length = us.length := by
  induction x with
  | nil => rfl
  | cons _ _ ih => rw [List.length_cons, List.length_cons, ih]
theorem RowsG.get {K : PySem.W.Frag} {H : Hp} {rs : List Addr} {us : List RowU} (x : RowsG K H rs us) {i : Nat} {v : V} (e : (rs.map V.ref)[i]? = some v) : ∃ r u, v = .ref r ∧ us[i]? = some u ∧ RowG K H r u := by
  induction x generalizing i with
  | nil => cases e
  | @cons r u rs us h k ih =>
    cases i with
    | zero => cases e; exact ⟨r, u, rfl, rfl, h⟩
    | succ i => exact ih e
/-- the law's dict from names to lists of kinds -/
inductive LV (H : Hp) : List (Key × V) → List RowU → Prop
  | nil : LV H [] []
  | cons {l : Addr} {u : RowU} {kvs : List (Key × V)} {us : List RowU} (h : H l = some (.lst ((u.2.1.map fun p => kd p.2).map V.str))) (r : LV H kvs us) : LV H ((Sum.inr u.1, .ref l) :: kvs) (u :: us)
theorem LV.same {H H' : Hp} (s : Same H H') {kvs : List (Key × V)} {us : List RowU} (t : LV H kvs us) : LV H' kvs us := by
  induction t with
  | nil => exact .nil
  | cons h _ ih => exact .cons (s _ _ h) ih
theorem LV.upd {H : Hp} {D : Addr} {o : HO} {kvs : List (Key × V)} {us : List RowU} (t : LV H kvs us) (n : ∀ kv ∈ kvs, kv.2 ≠ V.ref D) : LV (upd H D o) kvs us := by
  induction t with
  | nil => exact .nil
  | @cons l u kvs us h _ ih =>
    refine .cons ?_ (ih fun kv hk => n kv (List.mem_cons_of_mem _ hk))
    rw [upd_ne (fun z => n _ List.mem_cons_self (by rw [z]))]
    exact h
theorem LV.app {H : Hp} {kvs : List (Key × V)} {us : List RowU} (t : LV H kvs us) {l : Addr} {u : RowU} (h : H l = some (.lst ((u.2.1.map fun p => kd p.2).map V.str))) : LV H (kvs ++ [(Sum.inr u.1, .ref l)]) (us ++ [u]) := by
  induction t with
  | nil => exact .cons h .nil
  | cons h' _ ih => exact .cons h' ih
theorem LV.keys {H : Hp} {kvs : List (Key × V)} {us : List RowU} (t : LV H kvs us) : kvs.map (·.1) = (us.map (·.1)).map Sum.inr := by
  induction t with
  | nil => rfl
  | cons h r ih => rw [List.map_cons, ih]; rfl
theorem LV.len {H : Hp} {kvs : List (Key × V)} {us : List RowU} (t : LV H kvs us) : kvs.length = us.length := by
  induction t with
  | nil => rfl
  | cons _ _ ih => rw [List.length_cons, List.length_cons, ih]
theorem LV.get {H : Hp} {kvs : List (Key × V)} {us : List RowU} (t : LV H kvs us) {x : Str} {o : List (Str × Bool)} (h : (tbOf us).lookup x = some o) : ∃ l, valV kvs (Sum.inr x) = some (.ref l) ∧ H l = some (.lst ((o.map fun p => kd p.2).map V.str)) := by
  induction t with
  | nil => cases h
  | @cons l u kvs us hd r ih =>
    unfold tbOf at h
    rw [List.map_cons] at h
    simp only [List.lookup] at h
    by_cases e : u.1 = x
    · have eb : (x == u.1) = true := by rw [e]; exact beq_self_eq_true x
      rw [eb] at h
      cases Option.some.inj h
      exact ⟨l, valV_pos (by rw [e]), hd⟩
    · have eb : (x == u.1) = false := by simpa using fun z : x = u.1 => e z.symm
      rw [eb] at h
      obtain ⟨l2, h1, h2⟩ := ih h
      exact ⟨l2, by rw [valV_neg (fun z => e (Sum.inr.inj z))]; exact h1, h2⟩
theorem LV.getN {H : Hp} {kvs : List (Key × V)} {us : List RowU} (t : LV H kvs us) {x : Str} (h : (tbOf us).lookup x = none) : valV kvs (Sum.inr x) = none := by
  induction t with
  | nil => rfl
  | @cons l u kvs us hd r ih =>
    unfold tbOf at h
    rw [List.map_cons] at h
    simp only [List.lookup] at h
    by_cases e : u.1 = x
    · have eb : (x == u.1) = true := by rw [e]; exact beq_self_eq_true x
      rw [eb] at h
      cases h
    · have eb : (x == u.1) = false := by simpa using fun z : x = u.1 => e z.symm
      rw [eb] at h
      rw [valV_neg (fun z => e (Sum.inr.inj z))]
      exact ih h
def kindsL (bs : List Bool) : PyData := .list (bs.map fun b => .str (kd b))
theorem dp_kindsL {K : PySem.W.Frag} {H : Hp} {l : Addr} {bs : List Bool} (h : SqL K H l (bs.map fun b => V.str (kd b))) : Dp K H (.ref l) (kindsL bs) := by
  refine .lst h ?_
  clear h
  induction bs with
  | nil => exact .nil
  | cons b r ih => exact .cons (.str _) ih
def lookL (us : List RowU) (x : Str) : PyData := match (tbOf us).lookup x with | none => .none | some o => kindsL (o.map (·.2))
theorem LV.look {K : PySem.W.Frag} {H : Hp} {kvs : List (Key × V)} {us : List RowU} (t : LV H kvs us) (x : Str) : ∃ g : Option V, valV kvs (Sum.inr x) = g ∧ Dp K H (g.getD .non) (lookL us x) := by
  unfold lookL
  cases e : (tbOf us).lookup x with
  | none => exact ⟨none, t.getN e, .non⟩
  | some o =>
    obtain ⟨l, h1, h2⟩ := t.get e
    refine ⟨some (.ref l), h1, dp_kindsL (.inl (.inl ?_))⟩
    rw [h2, List.map_map, List.map_map]
    rfl
/-- the pairs that the dict is made of -/
theorem LV.names {H : Hp} {kvs : List (Key × V)} {us : List RowU} (t : LV H kvs us) : ∀ {acc : List (Key × V)} {us0 : List RowU}, NamesIn acc us0 → NamesIn (mergeK acc kvs) (us0 ++ us) := by
  induction t with
  | nil =>
    intro acc us0 n
    rw [List.append_nil]
    exact n
  | @cons l u kvs us h r ih =>
    intro acc us0 n
    have := ih (n.put (u := u) (v := .ref l))
    rw [List.append_assoc] at this
    exact this
def rowD (u : RowU) : PyData := .list [.str u.1, parsD u.2.1, u.2.2.data]
theorem RowG.dp {K : PySem.W.Frag} {H : Hp} {r : Addr} {u : RowU} (x : RowG K H r u) : Dp K H (.ref r) (rowD u) := by
  obtain ⟨⟨ov, bv, h1, h2, h3⟩, -⟩ := x
  exact .lst (.inl (.inl h1)) (.cons (.str _) (.cons h2 (.cons h3 .nil)))
/-- a right row -/
structure RowR (u : RowU) : Prop where
  po : ParOk u.2.1
  wd : wordB u.1 = true
  good : Good u.2.1 u.2.2
  low : u.2.2.deep ≤ 6
theorem RowG.r {K : PySem.W.Frag} {H : Hp} {r : Addr} {u : RowU} (x : RowG K H r u) : RowR u := ⟨x.po, x.wd, x.good, x.low⟩
theorem RowsG.r {K : PySem.W.Frag} {H : Hp} {rs : List Addr} {us : List RowU} (x : RowsG K H rs us) : ∀ u ∈ us, RowR u := by
  induction x with
  | nil => intro u h; cases h
  | cons h _ ih =>
    intro u hu
    rcases List.mem_cons.mp hu with e | hu
    · rw [e]
      exact h.r
    · exact ih u hu
end FS
set_option Elab.async false
set_option linter.all false
set_option maxRecDepth 100000
set_option maxHeartbeats 4000000
/-! a list turned round -/
set_option Elab.async false
set_option linter.all false
set_option maxRecDepth 100000
set_option maxHeartbeats 4000000
/-! what lies near a program -/
namespace FS
open PySem PySem.Spec PyProof.Rows L2
theorem RowG.go {K : PySem.W.Frag} {H H' : Hp} {D r : Addr} {u : RowU} (d : Die H D) (g : Go D H H') (x : RowG K H r u) : RowG K H' r u := by
  obtain ⟨⟨ov, bv, h1, h2, h3⟩, a, b, c, e, f, l⟩ := x
  have k := g.tk d
  refine ⟨⟨ov, bv, g.1 _ _ (fun z => ?_) h1, Dp.tk k (pars_noL _) h2, Dp.tk k (Tm.noL _) h3⟩, a, b, c, e, f, l⟩
  subst z
  obtain ⟨p, q, t, w⟩ := d
  rw [w] at h1
  cases Option.some.inj h1
theorem RowsG.go {K : PySem.W.Frag} {H H' : Hp} {D : Addr} {rs : List Addr} {us : List RowU} (d : Die H D) (g : Go D H H') (x : RowsG K H rs us) : RowsG K H' rs us := by
  induction x with
  | nil => exact .nil
  | cons h _ ih => exact .cons (h.go d g) ih
theorem RowAt.g {K : PySem.W.Frag} {H : Hp} {m : Int} {tb : Tbl} {r : Addr} {nm : Str} {own : List (Str × Bool)} {t : Tm} (x : RowAt K H m tb r nm own t) : RowG K H r (nm, own, t) := by
  obtain ⟨⟨ov, bv, h1, h2, h3⟩, po, wd, lk⟩ := x
  exact ⟨⟨ov, bv, h1, h2, h3.dp⟩, po, wd, h3.good, h3.kind, h3.few, Nat.le_trans h3.deep (by decide)⟩
/-- a list of rows, none of them the die -/
structure RL (K : PySem.W.Frag) (D : Addr) (H : Hp) (l : Addr) (rs : List Addr) (us : List RowU) : Prop where
  at_ : H l = some (.lst (rs.map V.ref))
  ne : l ≠ D
  rows : RowsG K H rs us
theorem RL.go {K : PySem.W.Frag} {H H' : Hp} {D l : Addr} {rs : List Addr} {us : List RowU} (d : Die H D) (g : Go D H H') (x : RL K D H l rs us) : RL K D H' l rs us := ⟨g.1 _ _ x.ne x.at_, x.ne, x.rows.go d g⟩
theorem RL.same {K : PySem.W.Frag} {H H' : Hp} {D l : Addr} {rs : List Addr} {us : List RowU} (s : Same H H') (x : RL K D H l rs us) : RL K D H' l rs us := ⟨s _ _ x.at_, x.ne, x.rows.same s⟩
theorem Good.more {own : List (Str × Bool)} {t : Tm} (g : Good own t) (p : Str × Bool) : Good (own ++ [p]) t := by
  induction g with
  | @mk h ks ok kk kids ih =>
    refine .mk ?_ kk ih
    have sub : ∀ q : Str × Bool, decide (q ∈ own) = true → decide (q ∈ own ++ [p]) = true := fun q hq => decide_eq_true (List.mem_append.mpr (.inl (of_decide_eq_true hq)))
    cases h with
    | run x =>
      obtain ⟨a, b⟩ := Bool.and_eq_true_iff.mp ok
      exact Bool.and_eq_true_iff.mpr ⟨sub _ a, b⟩
    | own x =>
      obtain ⟨a, b⟩ := Bool.and_eq_true_iff.mp ok
      exact Bool.and_eq_true_iff.mpr ⟨sub _ a, b⟩
    | deed w t => exact ok
    | seq => exact ok
    | alt => exact ok
    | call n => exact ok
    | wrp => exact ok
    | wth n => exact ok
theorem ParOk.more {own : List (Str × Bool)} (po : ParOk own) {p : Str × Bool} (l : own.length < 3) (w : wordB p.1 = true) (n : p.1 ∉ own.map (·.1)) : ParOk (own ++ [p]) := by
  refine ⟨by rw [List.length_append]; show _ + 1 ≤ 3; omega, fun q hq => ?_, ?_⟩
  · rcases List.mem_append.mp hq with z | z
    · exact po.nms q z
    · rw [List.mem_singleton.mp z]
      exact w
  · rw [List.map_append]
    exact List.nodup_append.mpr ⟨po.nd, List.nodup_cons.mpr ⟨List.not_mem_nil, .nil⟩, fun a ha b hb z => n (by rw [List.mem_singleton.mp hb] at z; exact (show a = p.1 from z) ▸ ha)⟩
theorem RowsG.app {K : PySem.W.Frag} {H : Hp} {rs qs : List Addr} {us vs : List RowU} (x : RowsG K H rs us) (y : RowsG K H qs vs) : RowsG K H (rs ++ qs) (us ++ vs) := by
  induction x with
  | nil => exact y
  | cons h _ ih => exact .cons h ih
theorem RowsG.take {K : PySem.W.Frag} {H : Hp} {rs : List Addr} {us : List RowU} (x : RowsG K H rs us) : ∀ k, RowsG K H (rs.take k) (us.take k) := by
  induction x with
  | nil => intro k; rw [List.take_nil, List.take_nil]; exact .nil
  | cons h _ ih =>
    intro k
    cases k with
    | zero => exact .nil
    | succ k => exact .cons h (ih k)
theorem RowsG.drop {K : PySem.W.Frag} {H : Hp} {rs : List Addr} {us : List RowU} (x : RowsG K H rs us) : ∀ k, RowsG K H (rs.drop k) (us.drop k) := by
  induction x with
  | nil => intro k; rw [List.drop_nil, List.drop_nil]; exact .nil
  | cons h t ih =>
    intro k
    cases k with
    | zero => exact .cons h t
    | succ k => exact ih k
section
variable {K : PySem.W.Frag} {H : Hp} {D l l2 p : Addr} {rs qs : List Addr} {us vs : List RowU}
theorem RL.mk_ (d : Die H D) (n : H p = none) (r : RowsG K H rs us) : RL K D (upd H p (.lst (rs.map V.ref))) p rs us := ⟨upd_same, d.ne n, r.same (same_upd n)⟩
theorem RL.one {r : Addr} {u : RowU} (g : RowG K H r u) (d : Die H D) (n : H p = none) : RL K D (upd H p (.lst [V.ref r])) p [r] [u] := RL.mk_ (rs := [r]) d n (.cons g .nil)
end
/-- one of the lists of rows -/
def Cand (K : PySem.W.Frag) (D : Addr) (H : Hp) (v : V) : Prop := ∃ l rs us, v = .ref l ∧ RL K D H l rs us ∧ us.length ≤ 20
theorem Cand.same {K : PySem.W.Frag} {D : Addr} {H H' : Hp} {v : V} (c : Cand K D H v) (s : Same H H') : Cand K D H' v := by
  obtain ⟨l, rs, us, e, r, n⟩ := c
  exact ⟨l, rs, us, e, r.same s, n⟩
theorem Cand.go {K : PySem.W.Frag} {D : Addr} {H H' : Hp} {v : V} (c : Cand K D H v) (d : Die H D) (g : Go D H H') : Cand K D H' v := by
  obtain ⟨l, rs, us, e, r, n⟩ := c
  exact ⟨l, rs, us, e, r.go d g, n⟩
end FS
set_option Elab.async false
set_option linter.all false
set_option maxRecDepth 100000
set_option maxHeartbeats 4000000
/-! what stays where lambdas are made: all but tables of code objects -/
namespace FS
open PySem PySem.Spec PyProof.Rows L2 LamX
def GoN (D : Addr) (H H' : Hp) : Prop := (∀ b o, b ≠ D → H b = some o → (∀ ps, o ≠ .tbl ps) → H' b = some o) ∧ Die H' D
theorem GoN.of {D : Addr} {H H' : Hp} (g : Go D H H') : GoN D H H' := ⟨fun b o n e _ => g.1 b o n e, g.2⟩
theorem GoN.trans {D : Addr} {H H1 H2 : Hp} (x : GoN D H H1) (y : GoN D H1 H2) : GoN D H H2 := ⟨fun b o n e t => y.1 b o n (x.1 b o n e t) t, y.2⟩
theorem GoN.same {D : Addr} {H H1 H2 : Hp} (x : GoN D H H1) (y : Same H1 H2) : GoN D H H2 := x.trans (.of (.of x.2 y))
theorem GoN.refl {D : Addr} {H : Hp} (d : Die H D) : GoN D H H := .of (.refl d)
theorem GoN.ext {D : Addr} {H H' : Hp} (d : Die H D) (e : ExtN H H') : GoN D H H' := ⟨fun b o _ h n => e b o h n, by
  obtain ⟨x, y, z, h⟩ := d
  exact ⟨x, y, z, e _ _ h (fun ps z => nomatch z)⟩⟩
theorem GoN.tk {D : Addr} {H H' : Hp} (d : Die H D) (g : GoN D H H') : TK H H' := fun b o t h => g.1 b o (fun z => by
  subst z
  obtain ⟨x, y, w, q⟩ := d
  rw [q] at h
  cases Option.some.inj h
  cases t) h (fun ps z => by
  subst z
  cases t)
theorem RowG.goN {K : PySem.W.Frag} {H H' : Hp} {D r : Addr} {u : RowU} (d : Die H D) (g : GoN D H H') (x : RowG K H r u) : RowG K H' r u := by
  obtain ⟨⟨ov, bv, h1, h2, h3⟩, a, b, c, e, f, l⟩ := x
  have k := g.tk d
  refine ⟨⟨ov, bv, g.1 _ _ (fun z => ?_) h1 (fun ps z => nomatch z), Dp.tk k (pars_noL _) h2, Dp.tk k (Tm.noL _) h3⟩, a, b, c, e, f, l⟩
  subst z
  obtain ⟨p, q, t, w⟩ := d
  rw [w] at h1
  cases Option.some.inj h1
theorem RowsG.goN {K : PySem.W.Frag} {H H' : Hp} {D : Addr} {rs : List Addr} {us : List RowU} (d : Die H D) (g : GoN D H H') (x : RowsG K H rs us) : RowsG K H' rs us := by
  induction x with
  | nil => exact .nil
  | cons h _ ih => exact .cons (h.goN d g) ih
theorem RL.goN {K : PySem.W.Frag} {H H' : Hp} {D l : Addr} {rs : List Addr} {us : List RowU} (d : Die H D) (g : GoN D H H') (x : RL K D H l rs us) : RL K D H' l rs us := ⟨g.1 _ _ x.ne x.at_ (fun ps z => nomatch z), x.ne, x.rows.goN d g⟩
theorem PAt.goN {K : PySem.W.Frag} {C : Addr} {H H' : Hp} {D a : Addr} {nm : Str} {own : List (Str × Bool)} {t : Tm} (d : Die H D) (g : GoN D H H') (p : PAt K C H a nm own t) : PAt K C H' a nm own t := by
  obtain ⟨⟨dx, pv, bv, pa, ka, wa, ua, xs, ws, us, h1, h2, h3, h4, h5, h6, h7, h8, h9, h10⟩, b, c, dd, e, f, gg⟩ := p
  have k := g.tk d
  obtain ⟨x, y, w', q⟩ := d
  have n1 : a ≠ D := fun z => by
    rw [z, q] at h1
    cases h1
  have n2 : pa ≠ D := fun z => by
    rw [z, q] at h4
    have e4 := HO.lst.inj (Option.some.inj h4)
    rw [all_eq] at h5
    cases h5 with
    | cons hd tl =>
      have e5 := (List.cons.inj e4).1
      obtain ⟨hh, kk⟩ := t
      obtain ⟨aa, _, _, ee, _⟩ := tm_open hd
      rw [ee] at e5
      cases e5
  exact ⟨⟨dx, pv, bv, pa, ka, wa, ua, xs, ws, us, g.1 _ _ n1 h1 (fun ps z => nomatch z), Dp.tk k (pars_noL own) h2, Dp.tk k t.noL h3, g.1 _ _ n2 h4 (fun ps z => nomatch z), DpAll.tk k (noL_datas _) h5, Dp.tk k (kindD_noL _) h6, Dp.tk k (strs_noL _) h7, Dp.tk k (strs_noL _) h8, h9, h10⟩, b, c, dd, e, f, gg⟩
theorem PsAt.goN {K : PySem.W.Frag} {C : Addr} {H H' : Hp} {D : Addr} {xs : List V} {us : List RowU} (d : Die H D) (g : GoN D H H') (x : PsAt K C H xs us) : PsAt K C H' xs us := by
  induction x with
  | nil => exact .nil
  | cons h _ ih => exact .cons (h.goN d g) ih
theorem PgX.same {K : PySem.W.Frag} {CP C : Addr} {H H' : Hp} {a : Addr} {m : Int} {us : List RowU} {xs : List V} (p : PgX K CP C H a m us xs) (s : Same H H') : PgX K CP C H' a m us xs := by
  obtain ⟨dx, pv, dv, nv, wv, kvs, ns, ws, h1, h2, h3, h4, h5, h6, h7, h8, h9, h10, h11, h12⟩ := p
  have k := TK.of s
  exact ⟨dx, pv, dv, nv, wv, kvs, ns, ws, s _ _ h1, Same.sqT s h2, h3.same s, h4, s _ _ h5, h6, Dp.tk k (strs_noL _) h7, h8, Dp.tk k (strs_noL _) h9, h10, h11, h12⟩
theorem PgX.goN {K : PySem.W.Frag} {CP C : Addr} {H H' : Hp} {D a : Addr} {m : Int} {us : List RowU} {xs : List V} (d : Die H D) (g : GoN D H H') (p : PgX K CP C H a m us xs) : PgX K CP C H' a m us xs := by
  obtain ⟨dx, pv, dv, nv, wv, kvs, ns, ws, h1, h2, h3, h4, h5, h6, h7, h8, h9, h10, h11, h12⟩ := p
  have k := g.tk d
  have n1 : a ≠ D := fun z => by
    obtain ⟨x, y, w', q⟩ := d
    rw [z, q] at h1
    cases h1
  have n2 : dv ≠ D := fun z => by
    obtain ⟨x, y, w', q⟩ := d
    rw [z, q] at h5
    cases h5
  exact ⟨dx, pv, dv, nv, wv, kvs, ns, ws, g.1 _ _ n1 h1 (fun ps z => nomatch z), k.sqT h2, h3.goN d g, h4, g.1 _ _ n2 h5 (fun ps z => nomatch z), h6, Dp.tk k (strs_noL _) h7, h8, Dp.tk k (strs_noL _) h9, h10, h11, h12⟩
theorem PgX.ins {K : PySem.W.Frag} {CP C : Addr} {H : Hp} {a : Addr} {m : Int} {us : List RowU} {xs : List V} (p : PgX K CP C H a m us xs) : ∃ dx fs, H a = some (.ins CP dx fs) := by
  obtain ⟨dx, pv, dv, nv, wv, kvs, ns, ws, h1, _⟩ := p
  exact ⟨_, _, h1⟩
theorem Tabs.same {T : List (Addr × Str)} {H H' : Hp} (t : Tabs T H) (s : Same H H') : Tabs T H' := t.ext s
theorem Tabs.go {T : List (Addr × Str)} {H H' : Hp} {D : Addr} (d : Die H D) (g : Go D H H') (t : Tabs T H) : Tabs T H' := fun p hp => by
  obtain ⟨ps, h1, h2, h3⟩ := t p hp
  have nD : ∀ b o, (∀ xs, o ≠ .lst xs) → H b = some o → b ≠ D := fun b o n e z => by
    obtain ⟨x, y, w', q⟩ := d
    rw [z, q] at e
    exact n _ (Option.some.inj e).symm
  refine ⟨ps, g.1 _ _ (nD _ (.tbl ps) (fun xs z => nomatch z) h1) h1, h2, fun pos cv hc => ?_⟩
  obtain ⟨c, e1, e2⟩ := h3 pos cv hc
  exact ⟨c, e1, g.1 _ _ (nD _ _ (fun xs z => by unfold CodeO at z; cases z) e2) e2⟩
/-! ### the code object of a def -/
/-- as Fun, its code object at c -/
structure FunC (K : PySem.W.Frag) (x qual : Str) (st : Stmt) (f : Addr) (fd : FuncData) (c : Addr) : Prop where
  ex : ∃ (oc : Value) (od : Option Addr) (kV doc pm : Value) (an : Option Addr) (ct : Value) (osl : Array (Option Value)), fd = PySem.W.fnOf x qual (defArgs st) (defBody st) (defScope st) .none kV doc pm an (.ref c) ct ∧
    K.lookup f = some ⟨oc, od, .func (PySem.W.fnOf x qual (defArgs st) (defBody st) (defScope st) .none kV doc pm an (.ref c) ct), osl⟩ ∧ PySem.W.codeIn K (.ref c) qual = true
section
variable {P : Program} {w : World} {K : PySem.W.Frag} {mg : Str → Option Value} {base : Heap}
theorem FunC.ok {c : Addr} {x qual : Str} {st : Stmt} {f : Addr} {fd : FuncData} {N ps : List Str} {k : Nat} {sp : Sp} (F : FunC K x qual st f fd c) (S : FnScope N ps (defScope st)) (len : ∀ vs H Q E, sp vs H Q E → vs.length = ps.length)
    (body : ∀ (A : Around) (outer : List Env) (s : Shared) (H : Hp) (vs : List V) (Q : VK) (E : XK), Room k (A.deeper (envOfC qual (defScope st) s.heap.objs.size f (.ref c))) → sp vs H Q E →
      ∃ t, PSs (cxOf CX0 P w K mg base N qual (defScope st) f (.ref c) A outer s H E).nox (defBody st) t ∧ t { nx := fun _ H' => Q .non H', rt := Q } (start N vs) H) : FnOk P w K mg base CX0 (k + 1) f fd ps sp := by
  obtain ⟨oc, od, kV, doc, pm, an, ct, osl, rfl, lk, hcd⟩ := F.ex
  refine fn_of lk hcd S len fun A outer s H vs Q E hr hsp => ?_
  obtain ⟨t, h, q⟩ := body A outer s H vs Q E hr hsp
  exact ⟨t, h.nox, q⟩
end
/-! ### a program is made of right procedures -/
theorem fitH_mono {m : Int} {tb tb' : Tbl} (h : ∀ x o, tb.lookup x = some o → tb'.lookup x = some o) {hd : Hd} {bs : List Bool} (f : fitH m tb hd bs = true) : fitH m tb' hd bs = true := by
  cases hd with
  | call x =>
    have f := of_decide_eq_true (show decide ((tb.lookup x).map (fun o => o.map (·.2)) = some bs) = true from f)
    cases e : tb.lookup x with
    | none => rw [e] at f; cases f
    | some o =>
      rw [e] at f
      exact decide_eq_true (by rw [h x o e]; exact f)
  | wth x =>
    have f := of_decide_eq_true (show decide ((tb.lookup x).map (fun o => o.map (·.2)) = some (bs ++ [false])) = true from f)
    cases e : tb.lookup x with
    | none => rw [e] at f; cases f
    | some o =>
      rw [e] at f
      exact decide_eq_true (by rw [h x o e]; exact f)
  | deed w t => exact f
  | seq => exact f
  | alt => exact f
  | run x => exact f
  | wrp => exact f
  | own x => exact f
theorem canB_ok {m : Int} {tb : Tbl} {us : List RowU} (ok : ProgOk m tb us) : canB (some m) (some us) = true := by
  show (decide (1 ≤ m) && decide (m ≤ 3) && arePsB us && !(decide (2 < m) && wrapsIn us) && partsFit m us) = true
  have h1 : arePsB us = true := by
    unfold arePsB ndB
    rw [decide_eq_true ok.few, decide_eq_true ok.nd, decide_eq_true (show (tbOf us).lookup ("main" : Str) = some [] from ok.main)]
    rfl
  have h2 : (decide (2 < m) && wrapsIn us) = false := by
    by_cases e : m = 3
    · rw [ok.wr e, Bool.and_false]
    · have := ok.m3
      rw [decide_eq_false (by omega)]
      rfl
  have h3 : partsFit m us = true := List.all_eq_true.mpr fun t ht => by
    obtain ⟨u, hu, ht⟩ := List.mem_flatMap.mp ht
    exact fitH_mono ok.lk (fits_all _ (ok.fits u hu) t ht)
  rw [h1, h2, h3, decide_eq_true ok.m1, decide_eq_true ok.m3]
  rfl
/-! ### odd values -/
def Smp (v : V) : Prop := v = .non ∨ (∃ i, v = .int i) ∨ (∃ z, v = .str z ∧ z.length ≤ 30000 ∧ Asc z)
/-- a drawn value: what a tuple holds is told too -/
inductive Odd (H : Hp) (a : Addr) : V → Prop
  | non : Odd H a .non
  | bl (b : Bool) : Odd H a (.bl b)
  | int (i : Int) : Odd H a (.int i)
  | str (z : Str) (h : z.length ≤ 30000) (h2 : Asc z) : Odd H a (.str z)
  | tup {p : Addr} {xs : List V} (n : p ≠ a) (e : H p = some (.tup xs)) (s : ∀ x ∈ xs, Smp x) (l : xs.length ≤ 2) : Odd H a (.ref p)
  | lst {p : Addr} {xs : List V} (n : p ≠ a) (e : H p = some (.lst xs)) : Odd H a (.ref p)
  | dct {p : Addr} {kvs : List (Key × V)} (n : p ≠ a) (e : H p = some (.dK kvs)) : Odd H a (.ref p)
theorem Odd.goN {H H' : Hp} {a : Addr} {v : V} (g : GoN a H H') (o : Odd H a v) : Odd H' a v := by
  cases o with
  | non => exact .non
  | bl b => exact .bl b
  | int i => exact .int i
  | str z h h2 => exact .str z h h2
  | tup n e s l => exact .tup n (g.1 _ _ n e (fun ps z => nomatch z)) s l
  | lst n e => exact .lst n (g.1 _ _ n e (fun ps z => nomatch z))
  | dct n e => exact .dct n (g.1 _ _ n e (fun ps z => nomatch z))
theorem Odd.go {H H' : Hp} {a : Addr} {v : V} (o : Odd H a v) (g : Go a H H') : Odd H' a v := o.goN (.of g)
def OL (H : Hp) (a : Addr) (xs : List V) : Prop := ∀ v ∈ xs, Odd H a v
theorem OL.go {H H' : Hp} {a : Addr} {xs : List V} (k : OL H a xs) (g : Go a H H') : OL H' a xs := fun v h => (k v h).go g
theorem OL.nil {H : Hp} {a : Addr} : OL H a [] := fun v h => nomatch h
theorem OL.cons {H : Hp} {a : Addr} {x : V} {xs : List V} (h : Odd H a x) (k : OL H a xs) : OL H a (x :: xs) := fun v hv => by
  rcases List.mem_cons.mp hv with rfl | hv
  · exact h
  · exact k v hv
/-! ### what is refused -/
/-- what makes no program with m modes -/
inductive BentV (K : PySem.W.Frag) (C D : Addr) (H : Hp) (m : Int) : V → Prop
  | tup {p : Addr} {xs : List V} {o : Option (List RowU)} (s : SqT K H p xs) (g : Given K C D H xs o) (l : xs.length ≤ 100) (c : canB (some m) o = false) : BentV K C D H m (.ref p)
  | lst {p : Addr} {xs : List V} (n : p ≠ D) (e : H p = some (.lst xs)) : BentV K C D H m (.ref p)
  | dct {p : Addr} {kvs : List (Key × V)} (n : p ≠ D) (e : H p = some (.dK kvs)) : BentV K C D H m (.ref p)
  | non : BentV K C D H m .non
  | bl (b : Bool) : BentV K C D H m (.bl b)
  | int (i : Int) : BentV K C D H m (.int i)
  | str (z : Str) : BentV K C D H m (.str z)
  | pr {a : Addr} {nm : Str} {own : List (Str × Bool)} {t : Tm} (p : PAt K C H a nm own t) : BentV K C D H m (.ref a)
theorem Knd.goN {H H' : Hp} {a : Addr} {v : V} (g : GoN a H H') (k : Knd H a v) : Knd H' a v := by
  cases k with
  | non => exact .non
  | bl b => exact .bl b
  | int i => exact .int i
  | str z h h2 => exact .str z h h2
  | tup n e => exact .tup n (g.1 _ _ n e (fun ps z => nomatch z))
  | lst n e => exact .lst n (g.1 _ _ n e (fun ps z => nomatch z))
  | dct n e => exact .dct n (g.1 _ _ n e (fun ps z => nomatch z))
theorem Mixed.goN {K : PySem.W.Frag} {C D : Addr} {H H' : Hp} {xs : List V} {b : Bool} (d : Die H D) (g : GoN D H H') (x : Mixed K C D H xs b) : Mixed K C D H' xs b := by
  induction x with
  | nil => exact .nil
  | prc h _ ih => exact .prc (h.goN d g) ih
  | odd h _ ih => exact .odd (h.goN g) ih
theorem Given.goN {K : PySem.W.Frag} {C D : Addr} {H H' : Hp} {xs : List V} {o : Option (List RowU)} (d : Die H D) (g : GoN D H H') (x : Given K C D H xs o) : Given K C D H' xs o := by
  cases x with
  | ps h => exact .ps (h.goN d g)
  | odd h => exact .odd (h.goN d g)
theorem BentV.goN {K : PySem.W.Frag} {C D : Addr} {H H' : Hp} {m : Int} {v : V} (d : Die H D) (g : GoN D H H') (x : BentV K C D H m v) : BentV K C D H' m v := by
  cases x with
  | tup s gv l c => exact .tup ((g.tk d).sqT s) (gv.goN d g) l c
  | lst n e => exact .lst n (g.1 _ _ n e (fun ps z => nomatch z))
  | dct n e => exact .dct n (g.1 _ _ n e (fun ps z => nomatch z))
  | non => exact .non
  | bl b => exact .bl b
  | int i => exact .int i
  | str z => exact .str z
  | pr p => exact .pr (p.goN d g)
end FS
namespace FS
open PySem PySem.Spec PyProof.Rows L2 LamX StX ClX
/-- all that a caller needs of the class Program -/
structure PgM (P : Program) (w : World) (K : PySem.W.Frag) (mg : Str → Option Value) (base : Heap) (CP C CI : Addr) : Prop where
  c : PgC K mg CP
  init : ∃ f, FnR P w K mg base (L2.CX P w) 10 f (spPgInitG K CP C CI) ∧ Mk K CP f
  of_ : ∃ mc p g, CRead K CP mc ∧ CMet K CP mc "of" p g ∧ FnR P w K mg base (L2.CX P w) 12 g (spPgOfG K CP C CI)
  eq : ∃ f fd, FnOk P w K mg base CX0 3 f fd ["self", "other"] (spPgEq K CP C) ∧ Binds K fd ["self", "other"] [] ∧ PySem.W.findIn K (.ref CP) "__eq__" = some (some (.ref f)) ∧ PySem.W.isFn K (.ref f) = true
  n : NoP K CP
end FS
namespace FS
open PySem PySem.Spec PyProof.Rows L2 LamX
/-- none of them stood in H -/
def NewIn (H : Hp) (xs : List V) : Prop := ∀ a, V.ref a ∈ xs → H a = none
theorem NewIn.app {H : Hp} {xs : List V} {a : Addr} (n : NewIn H xs) (h : H a = none) : NewIn H (xs ++ [.ref a]) := fun b hb => by
  rcases List.mem_append.mp hb with z | z
  · exact n b z
  · cases List.mem_singleton.mp z
    exact h
theorem none_back {H H' : Hp} {a : Addr} (s : Same H H') (h : H' a = none) : H a = none := by
  cases e : H a with
  | none => rfl
  | some o =>
    rw [s _ _ e] at h
    cases h
end FS
set_option Elab.async false
set_option linter.all false
set_option maxRecDepth 100000
set_option maxHeartbeats 4000000
/-! tuples of the very same objects, != -/
set_option Elab.async false
set_option linter.all false
set_option maxRecDepth 100000
set_option maxHeartbeats 4000000
/-! the law's last rows -/
namespace FS
open PySem PySem.Spec PyProof.Rows L2 LamX
theorem extN_tk {H H' : Hp} (e : ExtN H H') : TK H H' := fun b o t h => e b o h (fun ps z => by subst z; cases t)
theorem PAtD.ext {K : PySem.W.Frag} {C : Addr} {H H' : Hp} {D a : Addr} {nm : Str} {own : List (Str × Bool)} {t : Tm} (p : PAtD K C H D a nm own t) (e : ExtN H H') : PAtD K C H' D a nm own t := by
  obtain ⟨⟨dx, pv, bv, pa, ka, wa, ua, xs, ws, us, h1, h2, h3, h4, h5, h6, h7, h8, h9, h10, hn⟩, na, b, c, d, e1, f, g⟩ := p
  have k := extN_tk e
  exact ⟨⟨dx, pv, bv, pa, ka, wa, ua, xs, ws, us, e _ _ h1 (fun ps z => nomatch z), Dp.tk k (pars_noL own) h2, Dp.tk k t.noL h3, e _ _ h4 (fun ps z => nomatch z), DpAll.tk k (noL_datas _) h5, Dp.tk k (kindD_noL _) h6, Dp.tk k (strs_noL _) h7, Dp.tk k (strs_noL _) h8, h9, h10, hn⟩, na, b, c, d, e1, f, g⟩
theorem Tabs.put {T : List (Addr × Str)} {H : Hp} {l : Addr} {xs : List V} {o' : HO} (t : Tabs T H) (h : H l = some (.lst xs)) : Tabs T (upd H l o') := fun p hp => by
  obtain ⟨ps, h1, h2, h3⟩ := t p hp
  have nl : ∀ b o, (∀ xs, o ≠ .lst xs) → H b = some o → b ≠ l := fun b o n e z => by
    rw [z, h] at e
    exact n _ (Option.some.inj e).symm
  refine ⟨ps, by rw [upd_ne (nl _ (.tbl ps) (fun xs z => nomatch z) h1)]; exact h1, h2, fun pos cv hc => ?_⟩
  obtain ⟨c, e1, e2⟩ := h3 pos cv hc
  exact ⟨c, e1, by rw [upd_ne (nl _ _ (fun xs z => by unfold CodeO at z; cases z) e2)]; exact e2⟩
def tS : Tm := .mk .seq []
def tCall : Tm := .mk (.call "p") [.mk .seq []]
/-- what stands while the last rows are told -/
structure Told (K : PySem.W.Frag) (C : Addr) (TS : List (Addr × Str)) (H : Hp) (pm ow pl : Addr) (bs : List Bool) : Prop where
  main : PAtD K C H pl pm "main" [] tS
  own : Dp K H (.ref ow) (parsD [("b", false)])
  list : H pl = some (.lst (bs.map V.bl))
  tabs : Tabs TS H
section
variable {K : PySem.W.Frag} {C : Addr} {TS : List (Addr × Str)} {H H' : Hp} {pm ow pl : Addr} {bs : List Bool}
theorem Told.same (t : Told K C TS H pm ow pl bs) (s : Same H H') : Told K C TS H' pm ow pl bs := ⟨t.main.kp (.of s) (.of s), Dp.tk (.of s) (pars_noL _) t.own, s _ _ t.list, Tabs.same t.tabs s⟩
theorem Told.ext (t : Told K C TS H pm ow pl bs) (e : ExtN H H') (tt : Tabs TS H') : Told K C TS H' pm ow pl bs := ⟨t.main.ext e, Dp.tk (extN_tk e) (pars_noL _) t.own, e _ _ t.list (fun ps z => nomatch z), tt⟩
theorem Told.put (t : Told K C TS H pm ow pl bs) (b : Bool) : Told K C TS (upd H pl (.lst (bs.map V.bl ++ [V.bl b]))) pm ow pl (bs ++ [b]) := ⟨t.main.kp .set (TK.set t.list rfl), Dp.tk (TK.set t.list rfl) (pars_noL _) t.own, by rw [upd_same, List.map_append]; rfl, Tabs.put t.tabs t.list⟩
end
end FS
namespace FS
open PySem PySem.Spec PyProof.Rows L2 LamX
theorem PAt.ext {K : PySem.W.Frag} {C : Addr} {H H' : Hp} {a : Addr} {nm : Str} {own : List (Str × Bool)} {t : Tm} (p : PAt K C H a nm own t) (e : ExtN H H') : PAt K C H' a nm own t := by
  obtain ⟨⟨dx, pv, bv, pa, ka, wa, ua, xs, ws, us, h1, h2, h3, h4, h5, h6, h7, h8, h9, h10⟩, b, c, d, e1, f, g⟩ := p
  have k := extN_tk e
  exact ⟨⟨dx, pv, bv, pa, ka, wa, ua, xs, ws, us, e _ _ h1 (fun ps z => nomatch z), Dp.tk k (pars_noL own) h2, Dp.tk k t.noL h3, e _ _ h4 (fun ps z => nomatch z), DpAll.tk k (noL_datas _) h5, Dp.tk k (kindD_noL _) h6, Dp.tk k (strs_noL _) h7, Dp.tk k (strs_noL _) h8, h9, h10⟩, b, c, d, e1, f, g⟩
theorem Told.ps {K : PySem.W.Frag} {C : Addr} {TS : List (Addr × Str)} {H : Hp} {pm ow pl : Addr} {bs : List Bool} (t : Told K C TS H pm ow pl bs) : PsAt K C H [.ref pm] [("main", [], tS)] := .cons (u := ("main", [], tS)) t.main.pat .nil
theorem PsAt.one {K : PySem.W.Frag} {C : Addr} {H : Hp} {a : Addr} {nm : Str} {own : List (Str × Bool)} {t : Tm} (p : PAt K C H a nm own t) : PsAt K C H [.ref a] [(nm, own, t)] := .cons (u := (nm, own, t)) p .nil
theorem PsAt.two {K : PySem.W.Frag} {C : Addr} {H : Hp} {a b : Addr} {nm nm' : Str} {own own' : List (Str × Bool)} {t t' : Tm} (p : PAt K C H a nm own t) (q : PAt K C H b nm' own' t') : PsAt K C H [.ref a, .ref b] [(nm, own, t), (nm', own', t')] := .cons (u := (nm, own, t)) p (.one q)
end FS
set_option Elab.async false
set_option linter.all false
set_option maxRecDepth 100000
set_option maxHeartbeats 4000000
/-! programs changed: promises -/
namespace FS
open PySem PySem.Spec PyProof.Rows L2
theorem PsAtD.get {K : PySem.W.Frag} {C : Addr} {H : Hp} {D : Addr} {xs : List V} {us : List RowU} (x : PsAtD K C H D xs us) {i : Nat} {v : V} (e : xs[i]? = some v) : ∃ a u, v = .ref a ∧ us[i]? = some u ∧ PAtD K C H D a u.1 u.2.1 u.2.2 := by
  induction x generalizing i with
  | nil => cases e
  | @cons a u xs us h k ih =>
    cases i with
    | zero => cases e; exact ⟨a, u, rfl, rfl, h⟩
    | succ i => exact ih e
theorem PsAtD.same {K : PySem.W.Frag} {C : Addr} {H H' : Hp} {D : Addr} {xs : List V} {us : List RowU} (x : PsAtD K C H D xs us) (s : Same H H') : PsAtD K C H' D xs us := x.kp (.of s) (.of s)
theorem PAtD.same {K : PySem.W.Frag} {C : Addr} {H H' : Hp} {D a : Addr} {nm : Str} {own : List (Str × Bool)} {t : Tm} (p : PAtD K C H D a nm own t) (s : Same H H') : PAtD K C H' D a nm own t := p.kp (.of s) (.of s)
theorem PsAtD.len {K : PySem.W.Frag} {C : Addr} {H : Hp} {D : Addr} {xs : List V} {us : List RowU} (x : PsAtD K C H D xs us) : xs.length = us.length := by
  induction x with
  | nil => rfl
  | cons _ _ ih => rw [List.length_cons, List.length_cons, ih]
end FS
namespace FS
open PySem PySem.Spec PyProof.Rows L2 LamX StX ClX
/-- the list at rl of the rows, none of them at D or L -/
structure RLL (K : PySem.W.Frag) (D L : Addr) (H : Hp) (l : Addr) (rs : List Addr) (us : List RowU) : Prop where
  rl : RL K D H l rs us
  ne : l ≠ L
  rows : ∀ r ∈ rs, r ≠ L
theorem RLL.goN {K : PySem.W.Frag} {H H' : Hp} {D L l : Addr} {rs : List Addr} {us : List RowU} (d : Die H D) (g : GoN D H H') (x : RLL K D L H l rs us) : RLL K D L H' l rs us := ⟨x.rl.goN d g, x.ne, x.rows⟩
theorem RLL.same {K : PySem.W.Frag} {H H' : Hp} {D L l : Addr} {rs : List Addr} {us : List RowU} (s : Same H H') (x : RLL K D L H l rs us) : RLL K D L H' l rs us := ⟨x.rl.same s, x.ne, x.rows⟩
theorem PAtD.goN {K : PySem.W.Frag} {C : Addr} {H H' : Hp} {D L a : Addr} {nm : Str} {own : List (Str × Bool)} {t : Tm} (d : Die H D) (g : GoN D H H') (p : PAtD K C H L a nm own t) : PAtD K C H' L a nm own t := by
  obtain ⟨⟨dx, pv, bv, pa, ka, wa, ua, xs, ws, us, h1, h2, h3, h4, h5, h6, h7, h8, h9, h10, hn⟩, na, b, c, dd, e, f, gg⟩ := p
  have k := g.tk d
  obtain ⟨x, y, w', q⟩ := d
  have n1 : a ≠ D := fun z => by
    rw [z, q] at h1
    cases h1
  have n2 : pa ≠ D := fun z => by
    rw [z, q] at h4
    have e4 := HO.lst.inj (Option.some.inj h4)
    rw [all_eq] at h5
    cases h5 with
    | cons hd tl =>
      have e5 := (List.cons.inj e4).1
      obtain ⟨hh, kk⟩ := t
      obtain ⟨aa, _, _, ee, _⟩ := tm_open hd
      rw [ee] at e5
      cases e5
  exact ⟨⟨dx, pv, bv, pa, ka, wa, ua, xs, ws, us, g.1 _ _ n1 h1 (fun ps z => nomatch z), Dp.tk k (pars_noL own) h2, Dp.tk k t.noL h3, g.1 _ _ n2 h4 (fun ps z => nomatch z), DpAll.tk k (noL_datas _) h5, Dp.tk k (kindD_noL _) h6, Dp.tk k (strs_noL _) h7, Dp.tk k (strs_noL _) h8, h9, h10, hn⟩, na, b, c, dd, e, f, gg⟩
theorem PsAtD.goN {K : PySem.W.Frag} {C : Addr} {H H' : Hp} {D L : Addr} {xs : List V} {us : List RowU} (d : Die H D) (g : GoN D H H') (x : PsAtD K C H L xs us) : PsAtD K C H' L xs us := by
  induction x with
  | nil => exact .nil
  | cons h _ ih => exact .cons (h.goN d g) ih
/-- a program of the rows, at a, apart from L -/
structure Prg (K : PySem.W.Frag) (CP C L : Addr) (H : Hp) (a : Addr) (m : Int) (us : List RowU) : Prop where
  ex : ∃ xs, PgX K CP C H a m us xs ∧ PsAtD K C H L xs us
theorem Prg.goN {K : PySem.W.Frag} {CP C D L : Addr} {H H' : Hp} {a : Addr} {m : Int} {us : List RowU} (d : Die H D) (g : GoN D H H') (p : Prg K CP C L H a m us) : Prg K CP C L H' a m us := by
  obtain ⟨xs, h1, h2⟩ := p
  exact ⟨xs, h1.goN d g, h2.goN d g⟩
theorem Prg.same {K : PySem.W.Frag} {CP C L : Addr} {H H' : Hp} {a : Addr} {m : Int} {us : List RowU} (s : Same H H') (p : Prg K CP C L H a m us) : Prg K CP C L H' a m us := by
  obtain ⟨xs, h1, h2⟩ := p
  exact ⟨xs, h1.same s, h2.same s⟩
end FS
namespace FS
open PySem PySem.Spec PyProof.Rows L2
/-- what lies behind a statement is walked once, however it comes through -/
theorem seq_gen {a r : TS} {D : Ends} {σ : L2.St} {H : Hp} {P : L2.St → Hp → Prop} (h : ∀ N : L2.St → Hp → Prop, (∀ σ' H', P σ' H' → N σ' H') → a { D with nx := N } σ H) (k : ∀ σ' H', P σ' H' → r D σ' H') : tSeq a r D σ H := h _ fun σ' H' p => k σ' H' p
/-- parameters, at v -/
def ParV (K : PySem.W.Frag) (H : Hp) (v : V) : Prop := ∃ own, Dp K H v (parsD own) ∧ ParOk own
theorem ParV.tk {K : PySem.W.Frag} {H H' : Hp} {v : V} (e : TK H H') (p : ParV K H v) : ParV K H' v := by
  obtain ⟨own, h1, h2⟩ := p
  exact ⟨own, Dp.tk e (pars_noL _) h1, h2⟩
end FS
namespace FS
open PySem PySem.Spec PyProof.Rows L2
theorem TabV.getN {K : PySem.W.Frag} {H : Hp} {kvs : List (Key × V)} {tb : Tbl} (t : TabV K H kvs tb) {x : Str} (h : x ∉ tb.map (·.1)) : valV kvs (Sum.inr x) = none := by
  induction t with
  | nil => rfl
  | @cons y v own kvs tb hd po wd r ih =>
    have e : ¬ (Sum.inr y : Key) = Sum.inr x := fun z => h (by
      rw [← Sum.inr.inj z]
      exact List.mem_cons_self)
    rw [valV_neg e]
    exact ih fun z => h (List.mem_cons_of_mem _ z)
/-- the value of a name in a table, or another one -/
theorem TabAt.look {K : PySem.W.Frag} {H : Hp} {ta : Addr} {tb : Tbl} (t : TabAt K H ta tb) (x : Str) : ∃ o, DGet H ta (.str x) o ∧ ∀ z, ParV K H z → ParV K H (o.getD z) := by
  obtain ⟨kvs, e, tv, _⟩ := t
  by_cases h : x ∈ tb.map (·.1)
  · obtain ⟨v, own, hv, dp, po, -⟩ := tv.get h
    exact ⟨some v, hv ▸ DGet.k (k := Sum.inr x) e, fun z _ => ⟨own, dp, po⟩⟩
  · exact ⟨none, (tv.getN h) ▸ DGet.k (k := Sum.inr x) e, fun z p => p⟩
end FS
set_option Elab.async false
set_option linter.all false
set_option maxRecDepth 100000
set_option maxHeartbeats 4000000
namespace FS
open PySem PySem.Spec PyProof.Rows L2
/-- a test told once -/
theorem if_gen {tt : TT} {ts es : TS} {D : Ends} {σ : L2.St} {H : Hp} (P1 P2 : Hp → Prop) (h : ∀ Q : Bool → Hp → Prop, (∀ H', P1 H' → Q true H') → (∀ H', P2 H' → Q false H') → tt σ H Q) (k1 : ∀ H', P1 H' → ts D σ H') (k2 : ∀ H', P2 H' → es D σ H') : tIfS tt ts es D σ H :=
  h _ (fun H' p => by
    show (if (true : Bool) = true then ts D σ H' else es D σ H')
    rw [if_pos rfl]
    exact k1 H' p) (fun H' p => by
    show (if (false : Bool) = true then ts D σ H' else es D σ H')
    rw [if_neg Bool.false_ne_true]
    exact k2 H' p)
/-- an if that returns, or else what lies behind it -/
theorem ifr_gen {tt : TT} {ts r : TS} {D : Ends} {σ : L2.St} {H : Hp} (P1 P2 : Hp → Prop) (h : ∀ Q : Bool → Hp → Prop, (∀ H', P1 H' → Q true H') → (∀ H', P2 H' → Q false H') → tt σ H Q) (k1 : ∀ H', P1 H' → ts { D with nx := r D } σ H') (k2 : ∀ H', P2 H' → r D σ H') : tSeq (tIfS tt ts tNext) r D σ H :=
  if_gen (D := { D with nx := r D }) P1 P2 h k1 k2
theorem no_part {σ : L2.St} {H : Hp} {k : Option Int → Hp → Prop} (h : k none H) : tNoPart σ H k := h
end FS
set_option Elab.async false
set_option linter.all false
set_option maxRecDepth 100000
set_option maxHeartbeats 4000000
/-! any value that is drawn, as far as it is looked into -/
namespace FS
open PySem PySem.Spec PyProof.Rows L2
inductive Dat
  | non
  | bl (b : Bool)
  | int (i : Int)
  | str (z : Str)
  | tup (ds : List Dat)
  | oth
mutual
inductive At (K : PySem.W.Frag) (H : Hp) (D : Addr) : V → Dat → Prop
  | non : At K H D .non .non
  | bl (b : Bool) : At K H D (.bl b) (.bl b)
  | int (i : Int) : At K H D (.int i) (.int i)
  | str (z : Str) (h : z.length ≤ 1000 ∧ PyData.strOk z = true) : At K H D (.str z) (.str z)
  | tup {a : Addr} {xs : List V} {ds : List Dat} (s : SqT K H a xs) (r : AtAll K H D xs ds) : At K H D (.ref a) (.tup ds)
  | lst {p : Addr} {xs : List V} (n : p ≠ D) (e : H p = some (.lst xs)) : At K H D (.ref p) .oth
  | dct {p : Addr} {kvs : List (Key × V)} (n : p ≠ D) (e : H p = some (.dK kvs)) : At K H D (.ref p) .oth
inductive AtAll (K : PySem.W.Frag) (H : Hp) (D : Addr) : List V → List Dat → Prop
  | nil : AtAll K H D [] []
  | cons {v : V} {d : Dat} {vs : List V} {ds : List Dat} (h : At K H D v d) (r : AtAll K H D vs ds) : AtAll K H D (v :: vs) (d :: ds)
end
mutual
theorem At.tk {K : PySem.W.Frag} {H H' : Hp} {D : Addr} (k : TK H H') (g : ∀ b o, b ≠ D → H b = some o → (∀ ps, o ≠ .tbl ps) → H' b = some o) : ∀ {v : V} {d : Dat}, At K H D v d → At K H' D v d
  | _, _, .non => .non
  | _, _, .bl b => .bl b
  | _, _, .int i => .int i
  | _, _, .str z h => .str z h
  | _, _, .tup s r => .tup (k.sqT s) (AtAll.tk k g r)
  | _, _, .lst n e => .lst n (g _ _ n e (fun ps z => nomatch z))
  | _, _, .dct n e => .dct n (g _ _ n e (fun ps z => nomatch z))
theorem AtAll.tk {K : PySem.W.Frag} {H H' : Hp} {D : Addr} (k : TK H H') (g : ∀ b o, b ≠ D → H b = some o → (∀ ps, o ≠ .tbl ps) → H' b = some o) : ∀ {vs : List V} {ds : List Dat}, AtAll K H D vs ds → AtAll K H' D vs ds
  | _, _, .nil => .nil
  | _, _, .cons h r => .cons (At.tk k g h) (AtAll.tk k g r)
end
section
variable {K : PySem.W.Frag} {H H' : Hp} {D : Addr} {v : V} {d : Dat} {vs ws : List V} {ds es : List Dat}
theorem At.same (x : At K H D v d) (s : Same H H') : At K H' D v d := x.tk (.of s) fun b o _ e _ => s b o e
theorem AtAll.same (x : AtAll K H D vs ds) (s : Same H H') : AtAll K H' D vs ds := x.tk (.of s) fun b o _ e _ => s b o e
theorem At.go (x : At K H D v d) (y : Die H D) (g : Go D H H') : At K H' D v d := x.tk (g.tk y) fun b o n e _ => g.1 b o n e
theorem AtAll.go (x : AtAll K H D vs ds) (y : Die H D) (g : Go D H H') : AtAll K H' D vs ds := x.tk (g.tk y) fun b o n e _ => g.1 b o n e
theorem AtAll.len : ∀ {vs : List V} {ds : List Dat}, AtAll K H D vs ds → vs.length = ds.length
  | _, _, .nil => rfl
  | _, _, .cons _ r => congrArg (· + 1) (AtAll.len r)
theorem AtAll.get : ∀ {vs : List V} {ds : List Dat}, AtAll K H D vs ds → ∀ {i : Nat} {v : V}, vs[i]? = some v → ∃ d, ds[i]? = some d ∧ At K H D v d
  | _, _, .nil, i, v, h => by simp at h
  | _, _, .cons h r, 0, v, e => ⟨_, rfl, by
      rw [← Option.some.inj e]
      exact h⟩
  | _, _, .cons h r, i + 1, v, e => AtAll.get r e
theorem AtAll.put : ∀ {vs : List V} {ds : List Dat}, AtAll K H D vs ds → ∀ {i : Nat} {d : Dat}, ds[i]? = some d → ∃ v, vs[i]? = some v ∧ At K H D v d
  | _, _, .nil, i, v, h => by simp at h
  | _, _, .cons h r, 0, v, e => ⟨_, rfl, by
      rw [← Option.some.inj e]
      exact h⟩
  | _, _, .cons h r, i + 1, v, e => AtAll.put r e
theorem AtAll.app : ∀ {vs : List V} {ds : List Dat}, AtAll K H D vs ds → AtAll K H D ws es → AtAll K H D (vs ++ ws) (ds ++ es)
  | _, _, .nil, r => r
  | _, _, .cons h r, r2 => .cons h (AtAll.app r r2)
theorem AtAll.drop : ∀ (n : Nat) {vs : List V} {ds : List Dat}, AtAll K H D vs ds → AtAll K H D (vs.drop n) (ds.drop n)
  | 0, _, _, r => r
  | n + 1, _, _, .nil => .nil
  | n + 1, _, _, .cons _ r => AtAll.drop n r
theorem AtAll.take : ∀ (n : Nat) {vs : List V} {ds : List Dat}, AtAll K H D vs ds → AtAll K H D (vs.take n) (ds.take n)
  | 0, _, _, r => by simpa using AtAll.nil
  | n + 1, _, _, .nil => by simpa using AtAll.nil
  | n + 1, _, _, .cons h r => by
    rw [List.take_succ_cons, List.take_succ_cons]
    exact .cons h (AtAll.take n r)
/-! ### of which type it is -/
def Dat.isT : Dat → Bool
  | .tup _ => true
  | _ => false
def Dat.isS : Dat → Bool
  | .str _ => true
  | _ => false
theorem At.isTup (h : At K H D v d) : ∃ t, TyX K H v t ∧ PySem.W.kitOne K t (.type "tuple") = some d.isT := by
  cases h with
  | non => exact ⟨_, .base .non, kit_ty (show kitB "NoneType" "tuple" = some false by decide +kernel)⟩
  | bl b => exact ⟨_, .base (.bl b), kit_ty (show kitB "bool" "tuple" = some false by decide +kernel)⟩
  | int i => exact ⟨_, .base (.int i), kit_ty (show kitB "int" "tuple" = some false by decide +kernel)⟩
  | str z h => exact ⟨_, .base (.str z), kit_ty (show kitB "str" "tuple" = some false by decide +kernel)⟩
  | tup s r => exact ⟨_, ty_tup s, kit_ty (show kitB "tuple" "tuple" = some true by decide +kernel)⟩
  | lst n e => exact ⟨_, .base (.lst e), kit_ty (show kitB "list" "tuple" = some false by decide +kernel)⟩
  | dct n e => exact ⟨_, .base (.dK e), kit_ty (show kitB "dict" "tuple" = some false by decide +kernel)⟩
theorem At.isStr (h : At K H D v d) : ∃ t, TyX K H v t ∧ PySem.W.kitOne K t (.type "str") = some d.isS := by
  cases h with
  | non => exact ⟨_, .base .non, kit_ty (show kitB "NoneType" "str" = some false by decide +kernel)⟩
  | bl b => exact ⟨_, .base (.bl b), kit_ty (show kitB "bool" "str" = some false by decide +kernel)⟩
  | int i => exact ⟨_, .base (.int i), kit_ty (show kitB "int" "str" = some false by decide +kernel)⟩
  | str z h => exact ⟨_, .base (.str z), kit_ty (show kitB "str" "str" = some true by decide +kernel)⟩
  | tup s r => exact ⟨_, ty_tup s, kit_ty (show kitB "tuple" "str" = some false by decide +kernel)⟩
  | lst n e => exact ⟨_, .base (.lst e), kit_ty (show kitB "list" "str" = some false by decide +kernel)⟩
  | dct n e => exact ⟨_, .base (.dK e), kit_ty (show kitB "dict" "str" = some false by decide +kernel)⟩
def Dat.isI : Dat → Bool
  | .int _ => true
  | .bl _ => true
  | _ => false
def Dat.isB : Dat → Bool
  | .bl _ => true
  | _ => false
theorem At.isInt (h : At K H D v d) : ∃ t, TyX K H v t ∧ PySem.W.kitOne K t (.type "int") = some d.isI := by
  cases h with
  | non => exact ⟨_, .base .non, kit_ty (show kitB "NoneType" "int" = some false by decide +kernel)⟩
  | bl b => exact ⟨_, .base (.bl b), kit_ty (show kitB "bool" "int" = some true by decide +kernel)⟩
  | int i => exact ⟨_, .base (.int i), kit_ty (show kitB "int" "int" = some true by decide +kernel)⟩
  | str z h => exact ⟨_, .base (.str z), kit_ty (show kitB "str" "int" = some false by decide +kernel)⟩
  | tup s r => exact ⟨_, ty_tup s, kit_ty (show kitB "tuple" "int" = some false by decide +kernel)⟩
  | lst n e => exact ⟨_, .base (.lst e), kit_ty (show kitB "list" "int" = some false by decide +kernel)⟩
  | dct n e => exact ⟨_, .base (.dK e), kit_ty (show kitB "dict" "int" = some false by decide +kernel)⟩
theorem At.isBool (h : At K H D v d) : ∃ t, TyX K H v t ∧ PySem.W.kitOne K t (.type "bool") = some d.isB := by
  cases h with
  | non => exact ⟨_, .base .non, kit_ty (show kitB "NoneType" "bool" = some false by decide +kernel)⟩
  | bl b => exact ⟨_, .base (.bl b), kit_ty (show kitB "bool" "bool" = some true by decide +kernel)⟩
  | int i => exact ⟨_, .base (.int i), kit_ty (show kitB "int" "bool" = some false by decide +kernel)⟩
  | str z h => exact ⟨_, .base (.str z), kit_ty (show kitB "str" "bool" = some false by decide +kernel)⟩
  | tup s r => exact ⟨_, ty_tup s, kit_ty (show kitB "tuple" "bool" = some false by decide +kernel)⟩
  | lst n e => exact ⟨_, .base (.lst e), kit_ty (show kitB "list" "bool" = some false by decide +kernel)⟩
  | dct n e => exact ⟨_, .base (.dK e), kit_ty (show kitB "dict" "bool" = some false by decide +kernel)⟩
end
/-! ### a text against any value -/
end FS
set_option Elab.async false
set_option linter.all false
set_option maxRecDepth 100000
set_option maxHeartbeats 4000000
/-! == and in, a text on one side and any value on the other -/
namespace FS
open PySem PySem.Spec PyProof.Rows L2
open PySem.SeqAt
open AutoSeq1 (wpAny_loadPart')
section
variable {X : Cx} {K : PySem.W.Frag} {D : Addr} {pins : List (Addr × Obj)} {σ : L2.St} {H : Hp} {s : Shared}
/-- a list == [] -/
def rEqL0 (neg : Bool) : R2 := fun x y H Q => ∃ (a p : Addr) (xs : List V), x = .ref a ∧ y = .ref p ∧ H a = some (.lst xs) ∧ H p = some (.lst []) ∧ Q (.bl (if neg then !xs.isEmpty else xs.isEmpty)) H
theorem op_eqL0 {k : Nat} (hr : Room k X.A) : OpR X (compareOp .Eq) (rEqL0 false) := by
  intro pins s σ H x y v u Q I rx ry hq
  obtain ⟨a, p, xs, rfl, rfl, sa, sp, q⟩ := hq
  cases rx
  cases ry
  obtain ⟨-, its, n, r, e1⟩ := (show ObjOk X.prog X.w H s.heap a (.lst xs) from I.hok a _ sa)
  obtain ⟨-, jts, n2, r2, e2⟩ := (show ObjOk X.prog X.w H s.heap p (.lst []) from I.hok p _ sp)
  cases r2
  cases r with
  | nil =>
    have h := RcAt.lists (A := X.A) (s := s) (items := #[]) (items2 := #[]) (e := fun _ => true) ⟨_, e1, rfl, n, rfl⟩ ⟨_, e2, rfl, n2, rfl⟩ rfl hr.units0 (fun j h1 h2 => absurd h2 (Nat.not_lt_zero j))
    exact h _ _ _ _ ⟨.bl _, H, I, rfl, q⟩
  | cons h1 r =>
    have h := RcAt.lists_lengths (A := X.A) (s := s) ⟨_, e1, rfl, n, rfl⟩ ⟨_, e2, rfl, n2, rfl⟩ (by simp) hr.units0
    exact h _ _ _ _ ⟨.bl _, H, I, rfl, q⟩
theorem op_neL0 {k : Nat} (hr : Room k X.A) : OpR X (compareOp .NotEq) (rEqL0 true) := by
  intro pins s σ H x y v u Q I rx ry hq
  obtain ⟨a, p, xs, rfl, rfl, sa, sp, q⟩ := hq
  cases rx
  cases ry
  obtain ⟨-, its, n, r, e1⟩ := (show ObjOk X.prog X.w H s.heap a (.lst xs) from I.hok a _ sa)
  obtain ⟨-, jts, n2, r2, e2⟩ := (show ObjOk X.prog X.w H s.heap p (.lst []) from I.hok p _ sp)
  cases r2
  cases r with
  | nil =>
    have h := RcNeAt.lists (A := X.A) (s := s) (items := #[]) (items2 := #[]) (e := fun _ => true) ⟨_, e1, rfl, n, rfl⟩ ⟨_, e2, rfl, n2, rfl⟩ rfl hr.units0 (fun j h1 h2 => absurd h2 (Nat.not_lt_zero j))
    exact h _ _ _ _ ⟨.bl _, H, I, rfl, q⟩
  | cons h1 r =>
    have h := RcNeAt.lists_lengths (A := X.A) (s := s) ⟨_, e1, rfl, n, rfl⟩ ⟨_, e2, rfl, n2, rfl⟩ (by simp) hr.units0
    exact h _ _ _ _ ⟨.bl _, H, I, rfl, q⟩
end
end FS
set_option Elab.async false
set_option linter.all false
set_option maxRecDepth 100000
set_option maxHeartbeats 4000000
/-! which values are terms: as the law and the program look at them -/
set_option Elab.async false
set_option linter.all false
set_option maxRecDepth 100000
set_option maxHeartbeats 4000000
set_option Elab.async false
set_option linter.all false
set_option maxRecDepth 100000
set_option maxHeartbeats 4000000
/-! the promises of the program's functions, for any value -/
namespace FS
open PySem PySem.Spec PyProof.Rows L2
open PySem.SeqAt
/-! ### how deep, how wide, how much -/
mutual
def Dat.deep : Dat → Nat
  | .tup ds => deepsD ds + 1
  | _ => 0
def deepsD : List Dat → Nat
  | [] => 0
  | d :: r => max d.deep (deepsD r)
end
mutual
def Dat.wide : Dat → Nat
  | .tup ds => max ds.length (widesD ds)
  | _ => 0
def widesD : List Dat → Nat
  | [] => 0
  | d :: r => max d.wide (widesD r)
end
mutual
def Dat.size : Dat → Nat
  | .tup ds => sizesD ds + 1
  | _ => 1
def sizesD : List Dat → Nat
  | [] => 0
  | d :: r => d.size + sizesD r
end
/-! ### promises -/
def intB (d : Dat) (a b : Int) : Bool := match d with
  | .int i => decide (a ≤ i) && decide (i ≤ b)
  | _ => false
/-! ### a pair in parameters -/
end FS
set_option Elab.async false
set_option linter.all false
set_option maxRecDepth 100000
set_option maxHeartbeats 4000000
/-! k07: what the classes refuse -/
set_option Elab.async false
set_option linter.all false
set_option maxRecDepth 100000
set_option maxHeartbeats 4000000
/-! programs looked at, and changed: promises -/
set_option Elab.async false
set_option linter.all false
set_option maxRecDepth 100000
set_option maxHeartbeats 4000000
namespace FS
open PySem PySem.Spec PyProof.Rows L2
section
variable {P : Program} {w : World} {K : PySem.W.Frag} {mg : Str → Option Value} {base : Heap}
abbrev NProgram__init__ : List Str := ["self", "modes", "procedures", "procedure", "word"]
theorem scProgram__init__ : FnScope NProgram__init__ (([("self" : Str), ("modes" : Str)]) ++ [("procedures" : Str)]) (defScope sProgram__init__) := ⟨rfl, rfl, rfl, by decide +kernel, rfl, by decide +kernel, by decide +kernel⟩
theorem ok_Program__init__G {f : Addr} {fd : FuncData} (F : Fun K "__init__" "Program.__init__" sProgram__init__ f fd) (T : Nm K mg) {CP C CI : Addr} (B : Bad K mg CI) (ne : CP ≠ C) (PC : PgC K mg CP) (G : PrG P w K mg base C) (Rnamed : PrP P w K mg base C "named" "_named") (Rwords : PrP P w K mg base C "words" "_words")
    (Ccan_make_program : Cal P w K mg base 9 "can_make_program" ["modes", "procedures"] (spCanG K C)) (Chave_wraps : Cal P w K mg base 3 "have_wraps" ["procedures"] (spHave K C)) : FnR P w K mg base (L2.CX P w) 10 f (spPgInitG K CP C CI) := by
  have nd := scProgram__init__.nd
  refine (okStarX (k := 9) (ps := [("self" : Str), ("modes" : Str)]) (pv := ("procedures" : Str)) (sp := spPgInG K CP C CI) F scProgram__init__ (fun kV doc pm an cdv ct => StX.bind_star2 (B := fun a => bindArgs (PySem.W.fnOf "__init__" "Program.__init__" (defArgs sProgram__init__) (defBody sProgram__init__) (defScope sProgram__init__) .none kV doc pm an cdv ct) ⟨a, []⟩) (fun _ _ => rfl) (fun _ _ _ _ => rfl)) fun cdv A outer s H vs Q E hr h => ?_).imp fun vs H Q E h => init_inG h
  obtain ⟨x, dx, D, v, mo, p, xs, o, rfl, hx, hp, mv, gv, l100, q, qe⟩ := h
  refine ⟨_, (pss_cons (ps_if (pt_not (pt_val (pe_own Ccan_make_program (hr.mono (by decide)) (by rfl) (pa_cons (pv 1) (pa_cons (pv 2) pa_nil)))))
  (pss_one (ps_raise rfl (takes_of rfl rfl rfl rfl) (pmk_own PySem.F.excBase_ValueError B.xI B.gI B.kI (raises_own B.bI B.tI) rfl)))
  pss_nil)
  (PSs.nox (pss_cons (ps_fld (pv 0) (pv 1) rfl)
  (pss_cons (ps_fld (pv 0) (pv 2) rfl)
  (pss_cons (ps_fld (pv 0) (pe_dc (own := [("procedure", 3)]) (g := gName 3) (tt := tYes) rfl nd (pi_tup (pv 2)) (blkOk_by (own := [("procedure", 3)]) (N := NProgram__init__) (sc := defScope sProgram__init__) (by decide +kernel)) (fun _ _ _ _ _ => (pg_name (i := 3) nd rfl (Or.inl rfl))) (fun _ _ _ _ _ => pts_nil) (fun _ _ _ _ _ => (pe_prK Rnamed rfl rfl rfl rfl rfl G.c.cl (hr.mono (by decide)) (pv 3) rfl)) (fun _ _ _ _ _ => (pv 3))) rfl)
  (pss_cons (ps_fld (pv 0) (pe_callTy call_tuple_of (by rfl) T.b_tuple (by decide +kernel) (pa_cons (pe_callB (call_sortedD rfl) (by rfl) T.b_sorted (by decide +kernel) (pa_cons (pe_fld (pv 0) rfl) pa_nil)) pa_nil)) rfl)
  (pss_cons (ps_fld (pv 0) (pe_callTy call_tuple_of (by rfl) T.b_tuple (by decide +kernel) (pa_cons (pe_callB (cr_ranked rfl) (by rfl) T.b_sorted (by decide +kernel) (pa_cons (pe_set2 (own := [("procedure", 3), ("word", 4)]) (vs1 := [4]) (g := gName 3) (g1 := gName 4) (tt := tYes) (tt1 := tYes) rfl nd (pi_tup (pv 2)) (blkOk_by (own := [("procedure", 3), ("word", 4)]) (N := NProgram__init__) (sc := defScope sProgram__init__) (by decide +kernel)) (by decide) (fun _ _ _ _ _ => (pg_name (i := 3) nd rfl (Or.inl rfl))) (fun _ _ _ _ _ => pts_nil) (fun _ _ _ _ _ => (pi_tupK (K := K) rfl (pe_prK Rwords rfl rfl rfl rfl rfl G.c.cl (hr.mono (by decide)) (pv 3) rfl))) (fun _ _ _ _ _ => (pg_name (i := 4) nd rfl (Or.inl rfl))) (fun _ _ _ _ _ => pts_nil) (fun _ _ _ _ _ => (pv 4))) pa_nil)) pa_nil)) rfl)
  (pss_one (ps_fld (pv 0) (pe_own Chave_wraps (hr.mono (by decide)) (by rfl) (pa_cons (pv 2) pa_nil)) rfl))))))))), ?_⟩
  refine ⟨_, rfl, _, rfl, p, D, v, mo, xs, o, rfl, mv, .inl (.inl hp), gv, l100, fun H1 s1 => ?_⟩
  by_cases hc : canB mo o = true
  case neg =>
    have hc := Bool.not_eq_true _ |>.mp hc
    rw [hc]
    exact ⟨_, rfl, iteT (qe hc _ s1)⟩
  obtain ⟨m, us, rfl, rfl, m1, m3, few, nuN⟩ := canB_true hc
  have q := q m us rfl rfl hc
  rw [hc]
  cases mv
  have ps : PsAt K C H xs us := by
    cases gv with
    | ps h => exact h
  clear qe gv hc
  have lx := ps.len
  have fin : ∀ {H' H'' : Hp} {fs : List (Str × V)} {y : V} {g : Str}, Kp x H H' → H' x = some (.ins CP dx fs) → upd H' x (.ins CP dx (putF g y fs)) = H'' → Kp x H H'' ∧ H'' x = some (.ins CP dx (putF g y fs)) ∧ TK H' H'' ∧ Kp x H' H'' := fun k e h => by
    subst h
    exact ⟨k.trans .set, upd_same, TK.set e rfl, .set⟩
  have pss : ∀ {H' H'' : Hp} {fs : List (Str × V)}, PsAt K C H' xs us → Kp x H' H'' → H' x = some (.ins CP dx fs) → PsAt K C H'' xs us := fun a k e => a.kp k e rfl (fun _ z => by cases z) (fun _ _ _ z => by cases z; exact ne)
  refine ⟨_, rfl, iteF ?_⟩
  have k1 : Kp x H H1 := .of s1
  have hx1 := s1 _ _ hx
  have hp1 := s1 _ _ hp
  have ps1 := ps.same s1
  have npx : p ≠ x := fun z => by
    rw [z, hx] at hp
    cases hp
  clear s1 hx hp ps
  refine ⟨_, rfl, _, rfl, x, CP, dx, [], rfl, hx1, PC.cl, PC.a1, by show 0 < 1000; decide, ?_⟩
  generalize hh : upd H1 x _ = H2
  obtain ⟨k2, hx2, t2, j2⟩ := fin k1 hx1 hh
  have hp2 := j2 _ _ npx hp1
  have ps2 := pss ps1 j2 hx1
  clear hh t2 j2 hx1 hp1 ps1 k1
  refine ⟨_, rfl, _, rfl, x, CP, dx, _, rfl, hx2, PC.cl, PC.a2, by show 1 < 1000; decide, ?_⟩
  generalize hh : upd H2 x _ = H3
  rw [show putF "_modes" (V.int m) [] = [(("_modes" : Str), V.int m)] from rfl] at hx2 hh
  obtain ⟨k3, hx3, t3, j3⟩ := fin k2 hx2 hh
  rw [qf2] at hx3
  have hp3 := j3 _ _ npx hp2
  have ps3 := pss ps2 j3 hx2
  clear hh t3 j3 hx2 hp2 ps2 k2
  -- the dict
  refine ⟨_, rfl, p, rfl, ⟨xs, .inl (.inl hp3)⟩, fun D nD => ?_⟩
  refine dc_tup (xs := xs) (fun i H' => Same H3 H' ∧ ∃ kvs, H' D = some (.dK kvs) ∧ ByV kvs (xs.take i) (us.take i)) ⟨same_upd nD, [], upd_same, .nil⟩ (fun i H' hi h => .inl (.inl (h.1 _ _ hp3))) (fun i y H4 hy h => ?_) (fun H4 h => ?_)
  · obtain ⟨sm, kvs, eD, kv⟩ := h
    obtain ⟨a, u, rfl, hu, pa⟩ := (ps3.same sm).get hy
    have li := (List.getElem?_eq_some_iff.mp hy).1
    obtain ⟨⟨dx', pv', bv, pb, ka, wa, ua, ys, ws, vs, h1, -⟩, -⟩ := pa
    have lk := kv.len
    rw [List.length_take] at lk
    refine ⟨rfl, _, rfl, a, dx', _, rfl, h1, a, dx', _, _, rfl, h1, lk1, _, rfl, kvs, Sum.inr u.1, rfl, eD, small1000 (by omega), Same.set sm nD, _, upd_same, ?_⟩
    rw [take_more hu, take_more hy]
    exact kv.put (fresh_u nuN hu)
  · obtain ⟨sm, kvs, eD, kv⟩ := h
    rw [List.take_length, lx, List.take_length] at kv
    have hx4 := sm _ _ hx3
    have hp4 := sm _ _ hp3
    have k4 := k3.trans (.of sm)
    have ps4 := ps3.same sm
    have nDx : D ≠ x := fun z => by
      rw [z, hx3] at nD
      cases nD
    clear sm nD hx3 hp3 k3 ps3
    refine ⟨_, rfl, x, CP, dx, _, rfl, hx4, PC.cl, PC.a3, by show 2 < 1000; decide, ?_⟩
    generalize hh : upd H4 x _ = H5
    obtain ⟨k5, hx5, t5, j5⟩ := fin k4 hx4 hh
    rw [qf3] at hx5
    have hp5 := j5 _ _ npx hp4
    have ps5 := pss ps4 j5 hx4
    have hd5 := j5 _ _ nDx eD
    clear hh t5 j5 hx4 hp4 ps4 k4 eD
    -- the names
    have kk : kvs.length = us.length := kv.len
    refine ⟨_, rfl, x, CP, dx, _, _, rfl, hx5, PC.cl, PC.a3, qlk3, D, kvs, us.map (·.1), rfl, .inl hd5, kv.keys, ?_, fun ns q1 pm so nq => ?_⟩
    · rw [List.length_map]
      omega
    have s2 := same_upd (o := .lst (ns.map V.str)) nq
    have e2 : upd H5 q1 (.lst (ns.map V.str)) q1 = some (.lst (ns.map V.str)) := upd_same
    generalize upd H5 q1 (.lst (ns.map V.str)) = H6 at s2 e2 ⊢
    refine ⟨q1, _, rfl, .inl ⟨.inl (.inl e2), fun na nn => ?_⟩⟩
    have s3 := s2.trans (same_upd (o := .tup (ns.map V.str)) nn)
    have e3 : upd H6 na (.tup (ns.map V.str)) na = some (.tup (ns.map V.str)) := upd_same
    generalize upd H6 na (.tup (ns.map V.str)) = H7 at s3 e3 ⊢
    have dns7 : Dp K H7 (.ref na) (strsD ns) := .tup (.inl (.inl e3)) (dp_strs ns)
    have rns : Ranks (us.map (·.1)) ns := ranks_nd nuN pm so
    have hx7 := s3 _ _ hx5
    have hp7 := s3 _ _ hp5
    have ps7 := ps5.same s3
    have hd7 := s3 _ _ hd5
    have k7 := k5.trans (.of s3)
    clear pm so nq s2 e2 nn s3 e3 hx5 hp5 ps5 hd5 k5
    refine ⟨_, rfl, x, CP, dx, _, rfl, hx7, PC.cl, PC.a4, by show 3 < 1000; decide, ?_⟩
    generalize hh : upd H7 x _ = H8
    obtain ⟨k8, hx8, t8, j8⟩ := fin k7 hx7 hh
    rw [qf4] at hx8
    have hp8 := j8 _ _ npx hp7
    have ps8 := pss ps7 j8 hx7
    have hd8 := j8 _ _ nDx hd7
    have dns8 := Dp.tk t8 (strs_noL ns) dns7
    clear hh t8 j8 hx7 hp7 ps7 hd7 dns7 k7
    -- the words
    refine ⟨_, rfl, p, rfl, ⟨xs, .inl (.inl hp8)⟩, fun D2 nD2 => ?_⟩
    refine wk_tup (xs := xs) (fun i H' => Same H8 H' ∧ ∃ ls, H' D2 = some (SO w D2 (uniq ls)) ∧ ls.length ≤ 40 * i ∧ ∀ z, z ∈ ls ↔ z ∈ wordsOf (us.take i)) ⟨same_upd nD2, [], upd_same, Nat.zero_le _, fun z => Iff.rfl⟩ (fun i H' hi h => .inl (.inl (h.1 _ _ hp8))) (fun i y H9 hy h => ?_) (fun H9 h => ?_)
    · obtain ⟨sm, ls, eD, ll, lm⟩ := h
      obtain ⟨a, u, rfl, hu, pa⟩ := (ps8.same sm).get hy
      have li := (List.getElem?_eq_some_iff.mp hy).1
      obtain ⟨⟨dx', pv', bv, pb, ka, wa, ua, ys, ws, vs, h1, h2, h3, h4, h5, h6, h7, h8, h9, h10⟩, wd, po, gd, nw, few', low⟩ := pa
      have lw : ws.length ≤ 40 := by
        have := h9.few
        have := List.length_filterMap_le wordOf u.2.2.all
        have e : u.2.2.all.length = u.2.2.count := rfl
        omega
      obtain ⟨aw, zs, ez, sz, rz⟩ := Dp.tup_inv (show Dp K H9 (.ref wa) (.tuple (ws.map PyData.str)) from h7)
      cases ez
      have ez3 := strs_inv ws rz
      subst ez3
      refine ⟨rfl, _, rfl, a, dx', _, rfl, h1, a, dx', _, _, rfl, h1, lk6, wa, rfl, ⟨_, sz⟩, ?_⟩
      refine wk_tup (xs := ws.map V.str) (fun j H' => Same H8 H' ∧ TK H9 H' ∧ ∃ ls', H' D2 = some (SO w D2 (uniq ls')) ∧ ls'.length ≤ 40 * i + j ∧ ∀ z, z ∈ ls' ↔ z ∈ wordsOf (us.take i) ∨ z ∈ ws.take j) ⟨sm, .refl _, ls, eD, by omega, fun z => by rw [lm, List.take_zero]; simp⟩ (fun j H' hj h => h.2.1.sqT sz) (fun j y H10 hy' h => ?_) (fun H10 h => ?_)
      · obtain ⟨s10, t10, ls', e10, l10, m10⟩ := h
        rw [List.getElem?_map] at hy'
        obtain ⟨z, hz, rfl⟩ := Option.map_eq_some_iff.mp hy'
        have lj := (List.getElem?_eq_some_iff.mp hz).1
        refine ⟨rfl, _, rfl, z, _, rfl, e10, ?_, Same.set s10 nD2, t10.trans (TK.set e10 rfl), ls' ++ [z], ?_, ?_, ?_⟩
        · have := uniq_len ls'
          have e : scanBound = 4096 := rfl
          omega
        · rw [upd_same, uniq_put]; rfl
        · rw [List.length_append]
          show _ + 1 ≤ _
          omega
        · intro z'
          rw [List.mem_append, m10, take_more hz, List.mem_append, or_assoc]
      · obtain ⟨s10, t10, ls', e10, l10, m10⟩ := h
        rw [List.length_map] at l10 m10
        refine ⟨s10, ls', e10, by omega, fun z => ?_⟩
        rw [m10, words_more hu, List.take_length, h9.miff]
    · obtain ⟨s9, ls, eD, ll, lm⟩ := h
      rw [lx, List.take_length] at lm
      refine ⟨D2, _, rfl, eD, by have := uniq_len ls; omega, fun ws q1 pm so nq => ?_⟩
      have s2 := s9.trans (same_upd (o := .lst (ws.map V.str)) nq)
      have e2 : upd H9 q1 (.lst (ws.map V.str)) q1 = some (.lst (ws.map V.str)) := upd_same
      generalize upd H9 q1 (.lst (ws.map V.str)) = G2 at s2 e2 ⊢
      refine ⟨q1, _, rfl, .inl ⟨.inl (.inl e2), fun wa nw' => ?_⟩⟩
      have s3 := s2.trans (same_upd (o := .tup (ws.map V.str)) nw')
      have e3 : upd G2 wa (.tup (ws.map V.str)) wa = some (.tup (ws.map V.str)) := upd_same
      generalize upd G2 wa (.tup (ws.map V.str)) = G3 at s3 e3 ⊢
      have dws3 : Dp K G3 (.ref wa) (strsD ws) := .tup (.inl (.inl e3)) (dp_strs ws)
      have rws : Ranks (wordsOf us) ws := ranks_of pm so lm
      have hx9 := s3 _ _ hx8
      have hp9 := s3 _ _ hp8
      have ps9 := ps8.same s3
      have hd9 := s3 _ _ hd8
      have dns9 := Dp.tk (.of s3) (strs_noL ns) dns8
      have k9 := k8.trans (.of s3)
      clear s9 eD ll lm pm so nq s2 e2 nw' s3 e3 hx8 hp8 ps8 hd8 dns8 k8 nD2
      refine ⟨_, rfl, x, CP, dx, _, rfl, hx9, PC.cl, PC.a5, by show 4 < 1000; decide, ?_⟩
      generalize hh : upd G3 x _ = G4
      obtain ⟨k4, hx4, t4, j4⟩ := fin k9 hx9 hh
      rw [qf5] at hx4
      have hp4 := j4 _ _ npx hp9
      have ps4 := pss ps9 j4 hx9
      have hd4 := j4 _ _ nDx hd9
      have dns4 := Dp.tk t4 (strs_noL ns) dns9
      have dws4 := Dp.tk t4 (strs_noL ws) dws3
      clear hh t4 j4 hx9 hp9 ps9 hd9 dns9 k9 dws3
      refine ⟨_, rfl, p, xs, us, rfl, .inl (.inl hp4), ps4, few, fun G5 s5 => ?_⟩
      have hx5 := s5 _ _ hx4
      refine ⟨_, rfl, x, CP, dx, _, rfl, hx5, PC.cl, PC.a6, by show 5 < 1000; decide, ?_⟩
      generalize hh : upd G5 x _ = G6
      obtain ⟨k6, hx6, t6, j6⟩ := fin (k4.trans (.of s5)) hx5 hh
      rw [qf6] at hx6
      have tt := (TK.of s5).trans t6
      exact q G6 ⟨dx, p, D, na, wa, kvs, ns, ws, hx6, .inl (.inl (j6 _ _ npx (s5 _ _ hp4))), pss (ps4.same s5) j6 hx5, few, j6 _ _ nDx (s5 _ _ hd4), kv, Dp.tk tt (strs_noL ns) dns4, rns, Dp.tk tt (strs_noL ws) dws4, rws, m1, m3⟩ k6
end
end FS
set_option Elab.async false
set_option linter.all false
set_option maxRecDepth 100000
set_option maxHeartbeats 4000000
namespace FS
open PySem PySem.Spec PyProof.Rows L2
section
variable {P : Program} {w : World} {K : PySem.W.Frag} {mg : Str → Option Value} {base : Heap}
abbrev NProgramof : List Str := ["cls", "modes", "procedures"]
theorem scProgramof : FnScope NProgramof ["cls", "modes", "procedures"] (defScope sProgramof) := ⟨rfl, rfl, rfl, by decide +kernel, rfl, by decide +kernel, by decide +kernel⟩
theorem ok_Programof_G {f : Addr} {fd : FuncData} (F : Fun K "of" "Program.of" sProgramof f fd) (T : Nm K mg) {CP C CI fI : Addr} (B : Bad K mg CI) (PC : PgC K mg CP) (MI : Mk K CP fI) (FI : FnR P w K mg base (L2.CX P w) 10 fI (spPgInitG K CP C CI)) : FnOk P w K mg base (L2.CX P w) 12 f fd ["cls", "modes", "procedures"] (spPgOfG K CP C CI) := by
  have nd := scProgramof.nd
  refine F.okX scProgramof (fun vs H Q E h => ?_) (fun cdv A outer s H vs Q E hr h => ?_)
  · obtain ⟨v, pv', m, rfl, mv, q⟩ := h
    rfl
  · obtain ⟨v, pv', m, rfl, mv, q⟩ := h
    skip
    refine ⟨_, (pss_cons (ps_if (pt_not (pt_val (pe_callB call_isi (by rfl) T.b_isinstance (by decide +kernel) (pa_cons (pv 2) (pa_cons (pe_bltn (v := .ty "tuple") (by rfl) T.b_tuple (by decide +kernel) rfl) pa_nil)))))
  (pss_one (ps_raise rfl (takes_of rfl rfl rfl rfl) (pmk_own PySem.F.excBase_ValueError B.xI B.gI B.kI (raises_own B.bI B.tI) rfl)))
  pss_nil)
  (pss_one (ps_ret (pe_makeV (k := 10) (E := E) MI FI (hr.mono (by decide)) (passes_call (takes_of rfl rfl rfl rfl) (fun _ _ _ _ h => h)) (pv 0) (pa_cons (pv 1) (StX.pa_star (pv 2) pa_nil)))))), ?_⟩

    rcases q with ⟨p, D, xs, o, rfl, sq, gv, l100, q, qe⟩ | ⟨⟨t, ty, kt⟩, qe⟩
    · refine ⟨_, rfl, _, _, _, _, true, rfl, .ty "tuple", ty_tup sq, kit_ty (by decide +kernel), true, rfl, iteF ?_⟩
      refine ⟨_, rfl, rfl, _, rfl, _, rfl, p, xs, rfl, .inl sq, ?_⟩
      intro x dx nx nd ne
      have s1 : Same H (upd (upd H dx (.own x)) x (.ins CP dx [])) := fun b o e => by
        rw [upd_ne (ne_of_none e nx), upd_ne (ne_of_none e nd)]
        exact e
      refine ⟨x, dx, D, v, m, xs, o, by rw [List.append_nil], upd_same, mv, gv.same s1, l100, fun i us e1 e2 c H2 pa kp => ⟨rfl, q i us e1 e2 c H2 x (Same.made nx nd fun b o e n => kp b o n e) nx pa⟩, fun c H2 s2 => qe c H2 (s1.trans s2)⟩
    · exact ⟨_, rfl, _, _, _, _, false, rfl, .ty "tuple", ty, kt, false, rfl, iteT qe⟩
end
end FS
set_option Elab.async false
set_option linter.all false
set_option maxRecDepth 100000
set_option maxHeartbeats 4000000
namespace FS
open PySem PySem.Spec PyProof.Rows L2
section
variable {P : Program} {w : World} {K : PySem.W.Frag} {mg : Str → Option Value} {base : Heap}
abbrev NProgram__eq__ : List Str := ["self", "other"]
theorem scProgram__eq__ : FnScope NProgram__eq__ ["self", "other"] (defScope sProgram__eq__) := ⟨rfl, rfl, rfl, by decide +kernel, rfl, by decide +kernel, by decide +kernel⟩
theorem ok_Program__eq__ {f : Addr} {fd : FuncData} (F : Fun K "__eq__" "Program.__eq__" sProgram__eq__ f fd) (T : Nm K mg) {CP C : Addr} (PC : PgC K mg CP) (G : PrG P w K mg base C) : FnOk P w K mg base CX0 3 f fd ["self", "other"] (spPgEq K CP C) := by
  have nd := scProgram__eq__.nd
  refine F.ok scProgram__eq__ (fun vs H Q E h => ?_) (fun cdv A outer s H vs Q E hr h => ?_)
  · obtain ⟨a, y, m, us, xs, rfl, pt, q⟩ := h
    rfl
  · obtain ⟨a, y, m, us, xs, rfl, pt, q⟩ := h
    skip
    refine ⟨_, (pss_one (ps_ret (pe_and (pe_callB call_isi (by rfl) T.b_isinstance (by decide +kernel) (pa_cons (pv 1) (pa_cons (pe_glob (v := .ref CP) (by rfl) PC.gC rfl) pa_nil))) (pe_and (pe_cmpR op_eq (pe_fld (pv 0) rfl) (pe_fld (pv 1) rfl) (nomark _)) (pe_one (pe_cmpR (op_eqT G (hr.mono (by decide))) (pe_fld (pv 0) rfl) (pe_fld (pv 1) rfl) (nomark _))))))), ?_⟩

    obtain ⟨dx, pv', dv, nv, wv, kvs, ns, ws, h1, h2, h3, -⟩ := pt
    rcases q with ⟨ty, ht, hk, q⟩ | ⟨b, m', vs', ys, rfl, ⟨dx', pv2, dv', nv', wv', kvs', ns', ws', h1', h2', h3', -⟩, ap, q⟩
    · exact ⟨_, rfl, _, _, _, _, false, rfl, .own CP, ht, hk, false, rfl, q⟩
    · have ty : TyX K H (.ref b) (.ref CP) := .base (.ins h1' PC.cl PC.ha PC.hn PC.htk PC.hm)
      refine ⟨_, rfl, _, _, _, _, true, rfl, .own CP, ty, PC.self, true, rfl, iteT ?_⟩
      refine ⟨_, rfl, a, CP, dx, _, _, rfl, h1, PC.cl, PC.a1, lkH, _, rfl, b, CP, dx', _, _, rfl, h1', PC.cl, PC.a1, lkH, rfl, _, rfl, ?_⟩
      rw [int_dec]
      by_cases e : m = m'
      · rw [decide_eq_true e, Bool.true_and] at q
        rw [decide_eq_true e]
        refine iteT ?_
        exact ⟨_, rfl, a, CP, dx, _, _, rfl, h1, PC.cl, PC.a2, gl2, _, rfl, b, CP, dx', _, _, rfl, h1', PC.cl, PC.a2, gl2, pv', pv2, xs, ys, us, vs', rfl, rfl, h2, h2', h3, h3', ap, q⟩
      · rw [decide_eq_false e, Bool.false_and] at q
        rw [decide_eq_false e]
        exact q
end
end FS
set_option Elab.async false
set_option linter.all false
set_option maxRecDepth 100000
set_option maxHeartbeats 4000000
namespace FS
open PySem PySem.Spec PyProof.Rows L2
section
variable {P : Program} {w : World} {K : PySem.W.Frag} {mg : Str → Option Value} {base : Heap}
abbrev NGis_integer_in : List Str := ["value", "least", "greatest"]
theorem scGis_integer_in : FnScope NGis_integer_in ["value", "least", "greatest"] (defScope sis_integer_in) := ⟨rfl, rfl, rfl, by decide +kernel, rfl, by decide +kernel, by decide +kernel⟩
theorem okG_is_integer_in {f : Addr} {fd : FuncData} (F : Fun K "is_integer_in" "is_integer_in" sis_integer_in f fd) (T : Nm K mg) : FnOk P w K mg base CX0 2 f fd ["value", "least", "greatest"] (spIntInG) := by
  have nd := scGis_integer_in.nd
  refine F.ok scGis_integer_in (fun vs H Q E h => ?_) (fun cdv A outer s H vs Q E hr h => ?_)
  · obtain ⟨v, o, a, b, rfl, mv, q⟩ := h
    rfl
  · obtain ⟨v, o, a, b, rfl, mv, q⟩ := h
    skip
    refine ⟨_, (pss_one (ps_ret (pe_and (pe_callB call_isi (by rfl) T.b_isinstance (by decide +kernel) (pa_cons (pv 0) (pa_cons (pe_bltn (v := .ty "int") (by rfl) T.b_int (by decide +kernel) rfl) pa_nil))) (pe_and (pe_not (pe_callB call_isi (by rfl) T.b_isinstance (by decide +kernel) (pa_cons (pv 0) (pa_cons (pe_bltn (v := .ty "bool") (by rfl) T.b_bool (by decide +kernel) rfl) pa_nil)))) (pe_one (pe_chain op_le op_le (pv 1) (pv 0) (pv 2))))))), ?_⟩

    cases mv with
    | int i =>
      have q : Q (.bl (decide (a ≤ i) && decide (i ≤ b))) H := q
      refine ⟨_, rfl, _, _, _, _, true, rfl, .ty "int", .base (.int i), kit_ty (show kitB "int" "int" = some true by decide +kernel), true, rfl, ?_⟩
      refine ⟨_, rfl, _, _, _, _, false, rfl, .ty "bool", .base (.int i), kit_ty (show kitB "int" "bool" = some false by decide +kernel), false, rfl, ?_⟩
      refine ⟨true, rfl, ?_⟩
      refine iteT ?_
      refine ⟨_, rfl, _, rfl, _, _, rfl, rfl, _, rfl, ite2 (fun e1 => ?_) (fun e1 => ?_)⟩
      · refine ⟨_, rfl, _, _, rfl, rfl, ?_⟩
        rw [e1, Bool.true_and] at q
        exact q
      · rw [Bool.not_eq_true _ |>.mp e1, Bool.false_and] at q
        exact q
    | bl x =>
      refine ⟨_, rfl, _, _, _, _, true, rfl, .ty "int", .base (.bl x), kit_ty (show kitB "bool" "int" = some true by decide +kernel), true, rfl, ?_⟩
      refine ⟨_, rfl, _, _, _, _, true, rfl, .ty "bool", .base (.bl x), kit_ty (show kitB "bool" "bool" = some true by decide +kernel), true, rfl, ?_⟩
      exact ⟨false, rfl, q⟩
    | non =>
      exact ⟨_, rfl, _, _, _, _, false, rfl, .ty "int", .base .non, kit_ty (show kitB "NoneType" "int" = some false by decide +kernel), false, rfl, q⟩
end
end FS
set_option Elab.async false
set_option linter.all false
set_option maxRecDepth 100000
set_option maxHeartbeats 4000000
namespace FS
open PySem PySem.Spec PyProof.Rows L2
section
variable {P : Program} {w : World} {K : PySem.W.Frag} {mg : Str → Option Value} {base : Heap}
abbrev Nkinds_by_name : List Str := ["procedures", "procedure"]
theorem sckinds_by_name : FnScope Nkinds_by_name ["procedures"] (defScope skinds_by_name) := ⟨rfl, rfl, rfl, by decide +kernel, rfl, by decide +kernel, by decide +kernel⟩
theorem ok_kinds_by_name {f : Addr} {fd : FuncData} (F : Fun K "kinds_by_name" "kinds_by_name" skinds_by_name f fd) (T : Nm K mg) {C : Addr} (TP : NmP mg) (G : PrG P w K mg base C) (Rkinds : PrP P w K mg base C "kinds" "_kinds") (Rnamed : PrP P w K mg base C "named" "_named") : FnOk P w K mg base CX0 3 f fd ["procedures"] (spByNameG K C) := by
  have nd := sckinds_by_name.nd
  refine F.ok sckinds_by_name (fun vs H Q E h => ?_) (fun cdv A outer s H vs Q E hr h => ?_)
  · obtain ⟨p, xs, us, rfl, sq, ps, l8, q⟩ := h
    rfl
  · obtain ⟨p, xs, us, rfl, sq, ps, l8, q⟩ := h
    skip
    refine ⟨_, (pss_one (ps_ret (pe_dc (own := [("procedure", 1)]) (g := gName 1) (tt := tYes) rfl nd (pi_tup (pv 0)) (blkOk_by (own := [("procedure", 1)]) (N := Nkinds_by_name) (sc := defScope skinds_by_name) (by decide +kernel)) (fun _ _ _ _ _ => (pg_name (i := 1) nd rfl (Or.inl rfl))) (fun _ _ _ _ _ => pts_nil) (fun _ _ _ _ _ => (pe_prK Rnamed rfl rfl rfl rfl rfl G.c.cl (hr.mono (by decide)) (pv 1) rfl)) (fun _ _ _ _ _ => (pe_prK Rkinds rfl rfl rfl rfl rfl G.c.cl (hr.mono (by decide)) (pv 1) rfl))))), ?_⟩

    have lx := ps.len
    refine ⟨_, rfl, p, rfl, ⟨xs, sq⟩, fun D nD => ?_⟩
    refine dc_tup (xs := xs) (fun i H' => Same H H' ∧ ∃ kvs, H' D = some (.dK kvs) ∧ NamesIn kvs (us.take i) ∧ (((us.take i).map (·.1)).Nodup → KV K H' kvs (us.take i))) ⟨same_upd nD, [], upd_same, .nil, fun _ => .nil⟩ (fun i H' hi h => Same.sqT h.1 sq) (fun i x H2 hx h => ?_) (fun H' h => ?_)
    · obtain ⟨sm, kvs, eD, ni, kv⟩ := h
      obtain ⟨a, u, rfl, hu, pa⟩ := (ps.same sm).get hx
      have li := (List.getElem?_eq_some_iff.mp hx).1
      obtain ⟨⟨dx, pv', bv, pb, ka, wa, ua, ys, ws, vs, h1, h2, h3, h4, h5, h6, -⟩, -⟩ := pa
      have lk := ni.le
      rw [List.length_take] at lk
      have tk : TK H2 (upd H2 D (.dK (putK kvs (Sum.inr u.1) (.ref ka)))) := TK.set eD rfl
      refine ⟨rfl, _, rfl, a, dx, _, rfl, h1, a, dx, _, _, rfl, h1, lk1, _, rfl, a, dx, _, rfl, h1, a, dx, _, _, rfl, h1, lk5, kvs, Sum.inr u.1, rfl, eD, small1000 (by omega), Same.set sm nD, _, upd_same, ?_⟩
      rw [take_more hu]
      refine ⟨ni.put, fun nn => ?_⟩
      rw [List.map_append] at nn
      obtain ⟨n1, -, n2⟩ := List.nodup_append.mp nn
      exact ((kv n1).put h6 (fun z => n2 _ z _ List.mem_cons_self rfl)).tk tk
    · obtain ⟨sm, kvs, eD, ni, kv⟩ := h
      rw [lx, List.take_length] at kv ni
      exact q H' D kvs sm eD kv (fun n => ni.lt n)
end
end FS
set_option Elab.async false
set_option linter.all false
set_option maxRecDepth 100000
set_option maxHeartbeats 4000000
namespace FS
open PySem PySem.Spec PyProof.Rows L2
section
variable {P : Program} {w : World} {K : PySem.W.Frag} {mg : Str → Option Value} {base : Heap}
abbrev Nare_procedures : List Str := ["values", "kinds", "value"]
theorem scare_procedures : FnScope Nare_procedures ["values"] (defScope sare_procedures) := ⟨rfl, rfl, rfl, by decide +kernel, rfl, by decide +kernel, by decide +kernel⟩
theorem ok_are_procedures {f : Addr} {fd : FuncData} (F : Fun K "are_procedures" "are_procedures" sare_procedures f fd) (T : Nm K mg) {C : Addr} (TP : NmP mg) (G : PrG P w K mg base C) (NP : NoP K C) (Ckinds_by_name : Cal P w K mg base 3 "kinds_by_name" ["procedures"] (spByNameG K C)) : FnOk P w K mg base CX0 4 f fd ["values"] (spArePsG K C) := by
  have nd := scare_procedures.nd
  refine F.ok scare_procedures (fun vs H Q E h => ?_) (fun cdv A outer s H vs Q E hr h => ?_)
  · obtain ⟨p, D, xs, o, rfl, sq, gv, l100, q⟩ := h
    rfl
  · obtain ⟨p, D, xs, o, rfl, sq, gv, l100, q⟩ := h
    obtain ⟨tP, gP⟩ := TP.g_MAX_PROCEDURES
    refine ⟨_, (pss_cons (ps_if (PW.pt (pw_or (pt_cmpR op_gt (pe_callB call_len (by rfl) T.b_len PySem.boot_len (pa_cons (pv 0) pa_nil)) (pe_glob (v := .int 8) (by rfl) gP ⟨_, rfl⟩) (nomark _)) (pw_or1 (pt_not (pt_val (pe_callB (cr_all rfl) (by rfl) T.b_all (by decide +kernel) (pa_cons (pe_lc (own := [("value", 2)]) (g := gName 2) (tt := tYes) rfl nd (pi_tup (pv 0)) (blkOk_by (own := [("value", 2)]) (N := Nare_procedures) (sc := defScope sare_procedures) (by decide +kernel)) (fun _ _ _ _ _ => (pg_name (i := 2) nd rfl (Or.inl rfl))) (fun _ _ _ _ _ => pts_nil) (fun _ _ _ _ _ => (pe_callB (call_isiK (K := K) rfl) (by rfl) T.b_isinstance (by decide +kernel) (pa_cons (pv 2) (pa_cons (pe_glob (v := .ref C) (by rfl) G.c.gC rfl) pa_nil))))) pa_nil)))))))
  (pss_one (ps_ret pe_bl))
  pss_nil)
  (pss_cons (ps_set (i := 1) nd rfl (Or.inl rfl) (pe_own Ckinds_by_name (hr.mono (by decide)) (by rfl) (pa_cons (pv 0) pa_nil)))
  (pss_one (ps_ret (pe_and (pe_cmpR op_eq (pe_callB call_lenD (by rfl) T.b_len PySem.boot_len (pa_cons (pv 1) pa_nil)) (pe_callB call_len (by rfl) T.b_len PySem.boot_len (pa_cons (pv 0) pa_nil)) (nomark _)) (pe_one (pe_cmpR (op_eqD hr.units) (pe_dget1 (u1 hr) (pv 1) pe_str ⟨rfl, by rfl, rfl, rfl⟩) (pe_tup pa_nil) (nomark _)))))))), ?_⟩

    refine ⟨_, rfl, _, _, rfl, .inr ⟨_, sq, rfl⟩, _, _, rfl, rfl, _, rfl, ite2 (fun e => ?_) (fun e => ?_)⟩
    · have z : areB o = false := by
        cases gv with
        | odd _ => rfl
        | @ps us ps =>
          have h1 := ps.len
          have h2 := of_decide_eq_true e
          show (decide (us.length ≤ 8) && _ && _) = false
          rw [decide_eq_false (show ¬ us.length ≤ 8 by omega)]
          rfl
      rw [z] at q
      exact q H (Same.refl H)
    · have l8 : xs.length ≤ 8 := by
        have h2 := of_decide_eq_false (Bool.not_eq_true _ |>.mp e)
        omega
      obtain ⟨b, mx, hb⟩ : ∃ b, Mixed K C D H xs b ∧ b = o.isSome := by
        cases gv with
        | odd h => exact ⟨_, h, rfl⟩
        | ps h => exact ⟨_, h.mixed, rfl⟩
      obtain ⟨fs, f1, f2, f3⟩ := mx.flags
      refine ⟨_, rfl, p, rfl, ⟨xs, sq⟩, fun D2 nD => ?_⟩
      refine lc_tup (xs := xs) (fun i H' => Same H H' ∧ H' D2 = some (.lst ((fs.take i).map V.bl))) ⟨same_upd nD, upd_same⟩ (fun i H' hi h => Same.sqT h.1 sq) (fun i x H2 hx h => ?_) (fun H1 h => ?_)
      · obtain ⟨sm, eD⟩ := h
        have li := (List.getElem?_eq_some_iff.mp hx).1
        have hf : fs[i]? = some (fs[i]'(by omega)) := List.getElem?_eq_getElem (by omega)
        have fin : ∀ f : Bool, fs[i]? = some f → ∃ acc, H2 D2 = some (.lst acc) ∧ acc.length < sizeLine ∧ Same H (upd H2 D2 (.lst (acc ++ [V.bl f]))) ∧ (upd H2 D2 (.lst (acc ++ [V.bl f]))) D2 = some (.lst ((fs.take (i + 1)).map V.bl)) := fun f hf => by
          refine ⟨_, eD, ?_, Same.set sm nD, ?_⟩
          · rw [List.length_map, List.length_take]
            exact small1000 (by omega)
          · rw [upd_same, take_one V.bl hf]
        rcases f3 i x _ hx hf with ⟨ef, a, nm, own, t, rfl, pa⟩ | ⟨ef, kn⟩
        · obtain ⟨⟨dx, pv', bv, pb, ka, wa, ua, ys, ws, vs, h1, -⟩, -⟩ := pa.same sm
          rw [ef] at hf
          exact ⟨rfl, _, rfl, _, _, _, _, true, rfl, .own C, .base (.ins h1 G.c.cl G.c.ha G.c.hn G.c.htk G.c.hm), G.c.self, fin true hf⟩
        · obtain ⟨t, ty, kt, -⟩ := (kn.sm sm).nop NP
          rw [ef] at hf
          exact ⟨rfl, _, rfl, _, _, _, _, false, rfl, .own C, ty, kt, fin false hf⟩
      · obtain ⟨s1, eD⟩ := h
        refine ⟨D2, _, rfl, .inl (.inl eD), ?_⟩
        rw [← f1, List.take_length, f2, hb]
        cases gv with
        | odd _ => exact ⟨_, rfl, iteT (q _ s1)⟩
        | @ps us ps =>
          have lx := ps.len
          refine ⟨_, rfl, iteF ?_⟩
          refine ⟨_, rfl, p, xs, us, rfl, Same.sqT s1 sq, ps.same s1, by omega, fun H2 qd kvs s2 ek kv lt => ?_⟩
          have s12 := s1.trans s2
          have q : ∀ H', Same H H' → Q (.bl (decide (us.length ≤ 8) && decide ((us.map (·.1)).Nodup) && decide ((tbOf us).lookup ("main" : Str) = some []))) H' := q
          refine ⟨_, rfl, qd, kvs, rfl, ek, _, rfl, _, _, rfl, .inr ⟨_, Same.sqT s12 sq, rfl⟩, rfl, _, rfl, ?_⟩
          rw [int_dec]
          rw [decide_eq_true (show us.length ≤ 8 by omega), Bool.true_and] at q
          by_cases nd' : (us.map (·.1)).Nodup
          · have kv := kv nd'
            rw [decide_eq_true nd', Bool.true_and] at q
            rw [show decide ((kvs.length : Int) = (xs.length : Int)) = true by rw [kv.len, lx]; exact decide_eq_true rfl]
            refine iteT ?_
            obtain ⟨g, hv, dv⟩ := kv.look "main"
            refine ⟨_, rfl, qd, rfl, (.inl ⟨_, .inl ek⟩), g, hv ▸ DGet.k (k := Sum.inr "main") ek, Nat.zero_le _, fun p5 n5 => ?_⟩
            have s5 := same_upd (o := .tup []) n5
            refine ⟨_, .tuple [], Dp.tk (.of s5) (lookD_noL us _) dv, .tup (.inl (.inl upd_same)) .nil, lookD_shaped us _, rfl, ?_⟩
            rw [look_main]
            exact q _ (s12.trans s5)
          · have l := lt nd'
            rw [decide_eq_false nd', Bool.false_and] at q
            rw [show decide ((kvs.length : Int) = (xs.length : Int)) = false from decide_eq_false (by omega)]
            exact q _ s12
end
end FS
set_option Elab.async false
set_option linter.all false
set_option maxRecDepth 100000
set_option maxHeartbeats 4000000
namespace FS
open PySem PySem.Spec PyProof.Rows L2
section
variable {P : Program} {w : World} {K : PySem.W.Frag} {mg : Str → Option Value} {base : Heap}
abbrev Nfits : List Str := ["part", "modes", "kinds", "entry"]
theorem scfits : FnScope Nfits ["part", "modes", "kinds"] (defScope sfits) := ⟨rfl, rfl, rfl, by decide +kernel, rfl, by decide +kernel, by decide +kernel⟩
theorem ok_fits {f : Addr} {fd : FuncData} (F : Fun K "fits" "fits" sfits f fd) (T : Nm K mg) (Ckinds_of : Cal P w K mg base 2 "kinds_of" ["arguments"] (spKindsOf K)) : FnOk P w K mg base CX0 3 f fd ["part", "modes", "kinds"] (spFitsG K) := by
  have nd := scfits.nd
  refine F.ok scfits (fun vs H Q E h => ?_) (fun cdv A outer s H vs Q E hr h => ?_)
  · obtain ⟨own, v, t, m, ka, kvs, us, rfl, dp, gd, po, l6, l40, m1, m3, ek, kv0, q⟩ := h
    rfl
  · obtain ⟨own, v, t, m, ka, kvs, us, rfl, dp, gd, po, l6, l40, m1, m3, ek, kv0, q⟩ := h
    skip
    refine ⟨_, (pss_cons (ps_if (pt_cmpR op_eq (pe_ix ix_tup (pv 0) pe_int (fun _ _ => rfl)) pe_str (nomark _))
  (pss_one (ps_ret (pe_and (pe_cmpR op_eq (pe_callB call_len (by rfl) T.b_len PySem.boot_len (pa_cons (pe_ix ix_tup (pv 0) pe_int (fun _ _ => rfl)) pa_nil)) (pv 1) (nomark _)) (pe_one (pe_callB (cr_all rfl) (by rfl) T.b_all (by decide +kernel) (pa_cons (pe_lc (own := [("entry", 3)]) (g := gName 3) (tt := tYes) rfl nd (pi_tup (pe_ix ix_tup (pv 0) pe_int (fun _ _ => rfl))) (blkOk_by (own := [("entry", 3)]) (N := Nfits) (sc := defScope sfits) (by decide +kernel)) (fun _ _ _ _ _ => (pg_name (i := 3) nd rfl (Or.inl rfl))) (fun _ _ _ _ _ => pts_nil) (fun _ _ _ _ _ => (pe_or (pe_cmpR op_isN (pv 3) pe_non (nomark _)) (pe_one (pe_cmpR op_lt (pv 3) (pv 1) (nomark _)))))) pa_nil))))))
  pss_nil)
  (pss_cons (ps_if (pt_cmpR op_eq (pe_ix ix_tup (pv 0) pe_int (fun _ _ => rfl)) pe_str (nomark _))
  (pss_one (ps_ret (pe_cmpR (op_eqD hr.units) (pe_dget1 (u1 hr) (pv 2) (pe_ix ix_tup (pv 0) pe_int (fun _ _ => rfl)) ⟨rfl, by rfl, rfl, rfl⟩) (pe_own Ckinds_of (hr.mono (by decide)) (by rfl) (pa_cons (pe_slice sl_tupA (pv 0) (po_some pe_int) po_none) pa_nil)) (nomark _))))
  pss_nil)
  (pss_cons (ps_if (pt_cmpR op_eq (pe_ix ix_tup (pv 0) pe_int (fun _ _ => rfl)) pe_str (nomark _))
  (pss_one (ps_ret (pe_cmpR (op_eqD hr.units) (pe_dget1 (u1 hr) (pv 2) (pe_ix ix_tup (pv 0) pe_int (fun _ _ => rfl)) ⟨rfl, by rfl, rfl, rfl⟩) (pe_op op_catA (pe_own Ckinds_of (hr.mono (by decide)) (by rfl) (pa_cons (pe_slice sl_tupA (pv 0) (po_some pe_int) po_none) pa_nil)) (pe_tup (pa_cons pe_str pa_nil))) (nomark _))))
  pss_nil)
  (pss_one (ps_ret pe_bl))))), ?_⟩

    obtain ⟨h, ks⟩ := t
    obtain ⟨a, rs, kv, rfl, sq, r1, r2⟩ := tm_open dp
    have l40 : ks.length ≤ 40 := l40
    have cutk : ∀ {n : Str} {H1 : Hp} {Q : VK}, SqT K H1 a (V.str h.tag :: ([V.str n] ++ kv)) → (∀ H2 p, Same H1 H2 → SqT K H2 p kv → Q (.ref p) H2) → rSlA K (.ref a) (some ((2 : Nat) : Int)) none H1 Q := fun {n H1 Q} sq1 q1 => by
      refine ⟨a, _, rfl, sq1, fun z => absurd z.1 (cut_ne (k := 2) (by decide) (List.cons_ne_nil _ _)), fun _ p2 np2 => ?_⟩
      refine q1 _ _ (same_upd np2) (.inl (.inl ?_))
      rw [upd_same]
      show some (HO.tup (cutV (V.str h.tag :: ([V.str n] ++ kv)) (some ((2 : Nat) : Int)) none)) = some (HO.tup kv)
      rw [cut_from]
      rfl
    refine ⟨_, rfl, a, _, 0, _, rfl, rfl, sq, at0, rfl, _, rfl, ?_⟩
    rw [tag_dec h (j := 0)]
    refine ite2 (fun e0 => ?_) (fun e0 => ?_)
    · have hw : ∃ w t, h = .deed w t := by
        have e6 := of_decide_eq_true e0
        cases h <;> first | exact ⟨_, _, rfl⟩ | (simp [Hd.num] at e6)
      obtain ⟨w, t, rfl⟩ := hw
      cases r1 with
      | cons x1 r => cases r with
        | cons x2 r =>
        cases r
        cases Dp.str_inv x1
        obtain ⟨b, es, rfl, sb, rb⟩ := Dp.tup_inv x2
        have le : es.length = t.length := by rw [DpAll.len rb, List.length_map]
        have q : ∀ H', Same H H' → Q (.bl (decide ((t.length : Int) = m) && t.all (fun e => match e with | none => true | some n => decide ((n : Int) < m)))) H' := q
        refine ⟨_, rfl, a, _, 2, _, rfl, rfl, sq, at2, _, _, rfl, .inr ⟨_, sb, rfl⟩, _, rfl, rfl, _, rfl, ?_⟩
        rw [int_dec, le]
        by_cases lm : (t.length : Int) = m
        case neg =>
          rw [decide_eq_false lm] at q ⊢
          exact q H (Same.refl H)
        rw [decide_eq_true lm] at q ⊢
        refine iteT ?_
        refine ⟨_, rfl, a, _, 2, _, rfl, rfl, sq, at2, b, rfl, ⟨es, sb⟩, fun D nD => ?_⟩
        let eb : Option Nat → Bool := fun e => match e with | none => true | some n => decide ((n : Int) < m)
        refine lc_tup (xs := es) (fun i H' => Same H H' ∧ H' D = some (.lst (((t.take i).map eb).map V.bl))) ⟨same_upd nD, upd_same⟩ (fun i H' hi hp => Same.sqT hp.1 sb) (fun i x H2 hx hp => ?_) (fun H' hp => ?_)
        · obtain ⟨sm, eD⟩ := hp
          obtain ⟨d, hd, dx⟩ := DpAll.get rb hx
          rw [List.getElem?_map] at hd
          obtain ⟨e, he, rfl⟩ := Option.map_eq_some_iff.mp hd
          have li := (List.getElem?_eq_some_iff.mp hx).1
          refine ⟨rfl, ?_⟩
          have fin : ∀ b : Bool, b = eb e → ∃ acc, H2 D = some (.lst acc) ∧ acc.length < sizeLine ∧ Same H (upd H2 D (.lst (acc ++ [V.bl b]))) ∧ (upd H2 D (.lst (acc ++ [V.bl b]))) D = some (.lst (((t.take (i + 1)).map eb).map V.bl)) := fun b hb => by
            refine ⟨_, eD, ?_, Same.set sm nD, ?_⟩
            · rw [List.length_map, List.length_map, List.length_take]
              exact Nat.lt_of_le_of_lt (Nat.min_le_right _ _) (small1000 (by omega))
            · rw [upd_same, take_one eb he, List.map_append, hb]
              rfl
          cases e with
          | none =>
            cases dx
            refine ⟨_, rfl, ?_⟩
            exact ⟨rfl, _, rfl, iteT (fin true rfl)⟩
          | some n =>
            cases dx
            refine ⟨_, rfl, ?_⟩
            refine ⟨rfl, _, rfl, iteF ?_⟩
            exact ⟨_, rfl, _, rfl, _, _, rfl, rfl, fin _ rfl⟩
        · obtain ⟨sm, eD⟩ := hp
          refine ⟨D, _, rfl, .inl (.inl eD), ?_⟩
          rw [le, List.take_length]
          have e4 : (t.map eb).all id = t.all eb := by
            rw [List.all_map]
            rfl
          rw [e4]
          exact q H' sm
    · refine ⟨_, rfl, a, _, 0, _, rfl, rfl, sq, at0, rfl, _, rfl, ?_⟩
      rw [tag_dec h (j := 4)]
      have gk : ∀ u ∈ ks, Good own u ∧ u.deep ≤ 6 := fun u hu => ⟨gd.kid hu, by have := deep_kid (t := Tm.mk h ks) hu; omega⟩
      refine ite2 (fun e4 => ?_) (fun e4 => ?_)
      · have hw : ∃ n, h = .call n := by
          have e6 := of_decide_eq_true e4
          cases h <;> first | exact ⟨_, rfl⟩ | (simp [Hd.num] at e6)
        obtain ⟨n, rfl⟩ := hw
        cases r1 with
        | cons x1 r =>
          cases r
          cases Dp.str_inv x1
          have q : ∀ H', Same H H' → Q (.bl (decide (((tbOf us).lookup n).map (fun o => o.map (·.2)) = some (ks.map Tm.isW)))) H' := q
          obtain ⟨g, hv, dv⟩ := kv0.look n
          refine ⟨_, rfl, ka, rfl, (.inl ⟨_, .inl ek⟩), _, rfl, a, _, 1, _, rfl, rfl, sq, at1, g, hv ▸ DGet.k (k := Sum.inr n) ek, ?_⟩
          refine ⟨_, rfl, _, rfl, ?_⟩
          dsimp only [tNoPart]
          refine cutk sq fun H2 p2 s2 sq2 => ?_
          refine ⟨p2, kv, ks, own, rfl, sq2, DpAll.tk (.of s2) (noL_datas _) r2, gk, po, by omega, fun H3 p3 s3 e3 => ?_⟩
          have s23 := s2.trans s3
          refine ⟨_, _, Dp.tk (.of s23) (lookD_noL us n) dv, dp_kinds e3, lookD_shaped us n, kinds_shaped _, ?_⟩
          rw [look_eqv]
          exact q _ s23
      · refine ⟨_, rfl, a, _, 0, _, rfl, rfl, sq, at0, rfl, _, rfl, ?_⟩
        rw [tag_dec h (j := 7)]
        refine ite2 (fun e7 => ?_) (fun e7 => ?_)
        · have hw : ∃ n, h = .wth n := by
            have e6 := of_decide_eq_true e7
            cases h <;> first | exact ⟨_, rfl⟩ | (simp [Hd.num] at e6)
          obtain ⟨n, rfl⟩ := hw
          cases r1 with
          | cons x1 r =>
            cases r
            cases Dp.str_inv x1
            have q : ∀ H', Same H H' → Q (.bl (decide (((tbOf us).lookup n).map (fun o => o.map (·.2)) = some (ks.map Tm.isW ++ [false])))) H' := q
            obtain ⟨g, hv, dv⟩ := kv0.look n
            refine ⟨_, rfl, ka, rfl, (.inl ⟨_, .inl ek⟩), _, rfl, a, _, 1, _, rfl, rfl, sq, at1, g, hv ▸ DGet.k (k := Sum.inr n) ek, ?_⟩
            refine ⟨_, rfl, _, rfl, ?_⟩
            dsimp only [tNoPart]
            refine cutk sq fun H2 p2 s2 sq2 => ?_
            refine ⟨p2, kv, ks, own, rfl, sq2, DpAll.tk (.of s2) (noL_datas _) r2, gk, po, by omega, fun H3 p3 s3 e3 => ?_⟩
            have s23 := s2.trans s3
            refine ⟨by show 1 ≤ sizeLine; decide, fun p4 n4 => ?_⟩
            have s4 := same_upd (o := .tup [V.str "block"]) n4
            have sq3 : SqT K (upd H3 p4 (.tup [V.str "block"])) p3 ((ks.map Tm.isW).map fun b => V.str (kd b)) := .inl (.inl (s4 _ _ e3))
            have sq4 : SqT K (upd H3 p4 (.tup [V.str "block"])) p4 [V.str "block"] := .inl (.inl upd_same)
            have fin : ∀ {G : Hp} {p : Addr}, Same H G → SqT K G p ((ks.map Tm.isW ++ [false]).map fun b => V.str (kd b)) → rEqD K (g.getD .non) (.ref p) G Q := fun {G p} sg sp => by
              refine ⟨_, _, Dp.tk (.of sg) (lookD_noL us n) dv, dp_kindsT sp, lookD_shaped us n, kinds_shaped _, ?_⟩
              rw [look_eqv]
              exact q _ sg
            generalize upd H3 p4 (.tup [V.str "block"]) = H4 at s4 sq3 sq4 ⊢
            have sg := s23.trans s4
            refine ⟨p3, p4, _, _, rfl, rfl, sq3, sq4, ?_, fun z => ?_, (fun _ e => absurd e (List.cons_ne_nil _ _)), fun _ _ p5 n5 => ?_⟩
            · rw [List.length_map, List.length_map]
              exact Nat.le_of_lt (small16 (by show ks.length + 1 < 16000; omega))
            · have z0 : ks = [] := by
                cases ks with
                | nil => rfl
                | cons _ _ => cases z
              subst z0
              exact fin sg sq4
            · refine fin (sg.trans (same_upd n5)) (.inl (.inl ?_))
              rw [upd_same, List.map_append]
              rfl
        · have z : fitH m (tbOf us) h (ks.map Tm.isW) = true := by
            cases h <;> first | rfl | exact absurd (by rfl) e0 | exact absurd (by rfl) e4 | exact absurd (by rfl) e7
          have q : ∀ H', Same H H' → Q (.bl (fitH m (tbOf us) h (ks.map Tm.isW))) H' := q
          rw [z] at q
          exact q H (.refl H)
end
end FS
set_option Elab.async false
set_option linter.all false
set_option maxRecDepth 100000
set_option maxHeartbeats 4000000
namespace FS
open PySem PySem.Spec PyProof.Rows L2
section
variable {P : Program} {w : World} {K : PySem.W.Frag} {mg : Str → Option Value} {base : Heap}
abbrev Ncan_make_program : List Str := ["modes", "procedures", "kinds", "parts", "procedure", "part"]
theorem sccan_make_program : FnScope Ncan_make_program ["modes", "procedures"] (defScope scan_make_program) := ⟨rfl, rfl, rfl, by decide +kernel, rfl, by decide +kernel, by decide +kernel⟩
theorem ok_can_make_program {f : Addr} {fd : FuncData} (F : Fun K "can_make_program" "can_make_program" scan_make_program f fd) (T : Nm K mg) {C : Addr} (TP : NmP mg) (G : PrG P w K mg base C) (Rbody : PrP P w K mg base C "body" "_body") (Cis_integer_in : Cal P w K mg base 2 "is_integer_in" ["value", "least", "greatest"] spIntInG) (Care_procedures : Cal P w K mg base 4 "are_procedures" ["values"] (spArePsG K C)) (Chave_wraps : Cal P w K mg base 3 "have_wraps" ["procedures"] (spHave K C)) (Ckinds_by_name : Cal P w K mg base 3 "kinds_by_name" ["procedures"] (spByNameG K C)) (Call_parts : Cal P w K mg base 8 "all_parts" ["part"] (spAll K 7)) (Cfits : Cal P w K mg base 3 "fits" ["part", "modes", "kinds"] (spFitsG K)) : FnOk P w K mg base CX0 9 f fd ["modes", "procedures"] (spCanG K C) := by
  have nd := sccan_make_program.nd
  refine F.ok sccan_make_program (fun vs H Q E h => ?_) (fun cdv A outer s H vs Q E hr h => ?_)
  · obtain ⟨p, D, v, m, xs, o, rfl, mv, sq, gv, l100, q⟩ := h
    rfl
  · obtain ⟨p, D, v, m, xs, o, rfl, mv, sq, gv, l100, q⟩ := h
    obtain ⟨⟨t3, g3⟩, ⟨tW, gW⟩⟩ := And.intro T.g_MAX_MODES TP.g_MAX_MODES_WITH_WRAPS
    refine ⟨_, (pss_cons (ps_if (PW.pt (pw_or (pt_not (pt_val (pe_own Cis_integer_in (hr.mono (by decide)) (by rfl) (pa_cons (pv 0) (pa_cons pe_int (pa_cons (pe_glob (v := .int 3) (by rfl) g3 ⟨_, rfl⟩) pa_nil)))))) (pw_or1 (pt_not (pt_val (pe_own Care_procedures (hr.mono (by decide)) (by rfl) (pa_cons (pv 1) pa_nil)))))))
  (pss_one (ps_ret pe_bl))
  pss_nil)
  (pss_cons (ps_if (PW.pt (pw_and (pt_cmpR op_gt (pv 0) (pe_glob (v := .int 2) (by rfl) gW ⟨_, rfl⟩) (nomark _)) (pw_and1 (pt_val (pe_own Chave_wraps (hr.mono (by decide)) (by rfl) (pa_cons (pv 1) pa_nil))))))
  (pss_one (ps_ret pe_bl))
  pss_nil)
  (pss_cons (ps_set (i := 2) nd rfl (Or.inr rfl) (pe_own Ckinds_by_name (hr.mono (by decide)) (by rfl) (pa_cons (pv 1) pa_nil)))
  (pss_cons (ps_setLc2 (i := 3) (own := [("procedure", 4), ("part", 5)]) (vs1 := [5]) (g := gName 4) (g1 := gName 5) (tt := tYes) (tt1 := tYes) rfl nd rfl rfl (sw_true rfl rfl rfl (by decide +kernel)) (pi_tup (pv 1)) (blkOk_by (own := [("procedure", 4), ("part", 5)]) (N := Ncan_make_program) (sc := defScope scan_make_program) (by decide +kernel)) (by decide) (fun _ _ _ _ _ => (pg_name (i := 4) nd rfl (Or.inl rfl))) (fun _ _ _ _ _ => pts_nil) (fun _ _ _ _ _ => (pi_listK (K := K) rfl (pe_own Call_parts (hr.mono (by decide)) (by rfl) (pa_cons (pe_prK Rbody rfl rfl rfl rfl rfl G.c.cl (hr.mono (by decide)) (pv 4) rfl) pa_nil)))) (fun _ _ _ _ _ => (pg_name (i := 5) nd rfl (Or.inl rfl))) (fun _ _ _ _ _ => pts_nil) (fun _ _ _ _ _ => (pv 5)))
  (pss_one (ps_ret (pe_callB (cr_all rfl) (by rfl) T.b_all (by decide +kernel) (pa_cons (pe_lc (own := [("part", 5)]) (g := gName 5) (tt := tYes) rfl nd (pi_list (pv 3)) (blkOk_by (own := [("part", 5)]) (N := Ncan_make_program) (sc := defScope scan_make_program) (by decide +kernel)) (fun _ _ _ _ _ => (pg_name (i := 5) nd rfl (Or.inl rfl))) (fun _ _ _ _ _ => pts_nil) (fun _ _ _ _ _ => (pe_own Cfits (hr.mono (by decide)) (by rfl) (pa_cons (pv 5) (pa_cons (pv 0) (pa_cons (pv 2) pa_nil)))))) pa_nil)))))))), ?_⟩

    refine ⟨_, rfl, v, m, 1, 3, rfl, mv, ?_⟩
    by_cases hm : modB m 1 3 = true
    case neg =>
      have hm := Bool.not_eq_true _ |>.mp hm
      rw [canB_mod o hm] at q
      rw [hm]
      exact ⟨_, rfl, iteT (q H (.refl H))⟩
    obtain ⟨i, rfl⟩ : ∃ i, m = some i := by
      cases m with
      | none => cases hm
      | some i => exact ⟨i, rfl⟩
    rw [hm]
    cases mv
    have m12 : 1 ≤ i ∧ i ≤ 3 := by
      obtain ⟨h1, h2⟩ := Bool.and_eq_true_iff.mp (show (decide (1 ≤ i) && decide (i ≤ 3)) = true from hm)
      exact ⟨of_decide_eq_true h1, of_decide_eq_true h2⟩
    refine ⟨_, rfl, iteF ?_⟩
    refine ⟨_, rfl, p, D, xs, o, rfl, sq, gv, l100, fun H1 s1 => ?_⟩
    by_cases ha : areB o = true
    case neg =>
      have ha := Bool.not_eq_true _ |>.mp ha
      rw [canB_are i ha] at q
      rw [ha]
      exact ⟨_, rfl, iteT (q H1 s1)⟩
    rw [ha]
    obtain ⟨us, rfl⟩ : ∃ us, o = some us := by
      cases o with
      | none => cases ha
      | some us => exact ⟨us, rfl⟩
    have ps : PsAt K C H xs us := by
      cases gv with
      | ps h => exact h
    have lx := ps.len
    obtain ⟨few, nd', -⟩ := areB_parts ha
    refine ⟨_, rfl, iteF ?_⟩
    refine ⟨_, rfl, _, _, rfl, rfl, _, rfl, ite2 (fun e2 => ?A) (fun e2 => ?B)⟩
    case' A =>
      have m2 := of_decide_eq_true e2
      refine ⟨_, rfl, p, xs, us, rfl, Same.sqT s1 sq, ps.same s1, few, fun HH sh => ?_⟩
      by_cases hw : wrapsIn us = true
      case pos =>
        rw [canB_wr us (by omega) hw] at q
        rw [hw]
        exact ⟨_, rfl, iteT (q _ (s1.trans sh))⟩
      have hw := Bool.not_eq_true _ |>.mp hw
      rw [hw]
      refine ⟨_, rfl, iteF ?_⟩
      have sH := s1.trans sh
      have nw : (decide (2 < i) && wrapsIn us) = false := by rw [hw, Bool.and_false]
      clear sh e2 hw m2
    case' B =>
      have sH := s1
      have nw : (decide (2 < i) && wrapsIn us) = false := by
        rw [decide_eq_false (show ¬ 2 < i by
          have := of_decide_eq_false (Bool.not_eq_true _ |>.mp e2)
          omega), Bool.false_and]
      clear e2
    all_goals
      clear s1
      rw [canB_fit hm ha nw] at q
      clear gv
      refine ⟨_, rfl, p, xs, us, rfl, Same.sqT sH sq, ps.same sH, few, fun H3 ka kvs s3 ek kv _ => ?_⟩
      have kv := kv nd'
      have sq3 := Same.sqT (sH.trans s3) sq
      have ps3 := ps.same (sH.trans s3)
      have s03 := sH.trans s3
      clear sH s3
      refine ⟨_, rfl, p, rfl, ⟨xs, sq3⟩, fun D nD => ?_⟩
      refine wk_tup (xs := xs) (fun i H' => Same H3 H' ∧ ∃ vs ts, H' D = some (.lst vs) ∧ DpAll K H' vs (datas ts) ∧ ts.length ≤ 40 * i ∧ ts = partsIn (us.take i) ∧ ∀ t ∈ ts, PTG t) ⟨same_upd nD, [], [], upd_same, .nil, Nat.zero_le _, rfl, fun _ h => nomatch h⟩ (fun i H' hi h => Same.sqT h.1 sq3) (fun i x H4 hx h => ?_) (fun H4 h => ?_)
      · obtain ⟨sm, vs, ts, eD, rv, lt, et, pt⟩ := h
        obtain ⟨a, u, rfl, hu, pa⟩ := (ps3.same sm).get hx
        have li := (List.getElem?_eq_some_iff.mp hx).1
        obtain ⟨⟨dx, pv', bv, pb, kb, wa, ua, zs, ws, us', h1, h2, h3, -⟩, wd, po, gd, nw, few', low⟩ := pa
        refine ⟨rfl, _, rfl, a, dx, _, rfl, h1, a, dx, _, _, rfl, h1, lk3, u.2.1, bv, u.2.2, rfl, h3, gd, by omega, by omega, fun H5 pp ys s5 np5 ep5 ry => ?_⟩
        have nDp : pp ≠ D := fun z => by
          rw [z, eD] at np5
          cases np5
        have ly : ys.length ≤ 40 := by
          rw [DpAll.len ry, datas_len]
          exact few'
        have ly2 : ys.length = u.2.2.all.length := by rw [DpAll.len ry, datas_len]
        refine ⟨pp, rfl, ⟨_, .inl (.inl ep5)⟩, ?_⟩
        refine wk_list (xs := ys) (fun j H' => Same H3 H' ∧ H' pp = some (.lst ys) ∧ TK H5 H' ∧ ∃ vs ts, H' D = some (.lst vs) ∧ DpAll K H' vs (datas ts) ∧ ts.length ≤ 40 * i + j ∧ ts = partsIn (us.take i) ++ u.2.2.all.take j ∧ ∀ t ∈ ts, PTG t) ⟨sm.trans s5, ep5, .refl _, vs, ts, s5 _ _ eD, DpAll.tk (.of s5) (noL_datas _) rv, by omega, by rw [et, List.take_zero, List.append_nil], pt⟩ (fun j H' hj h => .inl (.inl h.2.1)) (fun j x H6 hx6 h => ?_) (fun H6 h => ?_)
        · obtain ⟨s6, e6, k6, vs6, ts6, eD6, rv6, lt6, et6, pt6⟩ := h
          obtain ⟨w', hw, dw⟩ := datas_at (DpAll.tk k6 (noL_datas _) ry) hx6
          have lj := (List.getElem?_eq_some_iff.mp hx6).1
          have kk : TK H6 (upd H6 D (.lst (vs6 ++ [x]))) := TK.set eD6 rfl
          have lv : vs6.length = ts6.length := by rw [DpAll.len rv6, datas_len]
          refine ⟨rfl, _, rfl, vs6, eD6, small1000 (by omega), Same.set s6 nD, ?_, k6.trans kk, vs6 ++ [x], ts6 ++ [w'], upd_same, ?_, ?_, ?_, ?_⟩
          · rw [upd_ne nDp]
            exact e6
          · rw [datas_app]
            exact DpAll.app (DpAll.tk kk (noL_datas _) rv6) (.cons (Dp.tk kk w'.noL dw) .nil)
          · rw [List.length_append]
            show _ + 1 ≤ _
            omega
          · rw [take_more hw, et6, List.append_assoc]
          · intro t ht
            rcases List.mem_append.mp ht with h | h
            · exact pt6 t h
            · rw [List.mem_singleton.mp h]
              exact ptg_all gd po low few' w' (List.mem_of_getElem? hw)
        · obtain ⟨s6, e6, k6, vs6, ts6, eD6, rv6, lt6, et6, pt6⟩ := h
          refine ⟨s6, vs6, ts6, eD6, rv6, by omega, ?_, pt6⟩
          rw [parts_more hu, et6, ly2, List.take_length]
      · obtain ⟨sm, vs, ts, eD, rv, lt, et, pt⟩ := h
        have lv : vs.length = ts.length := by rw [DpAll.len rv, datas_len]
        rw [lx, List.take_length] at et
        refine ⟨_, rfl, D, rfl, ⟨_, .inl (.inl eD)⟩, fun D2 nD2 => ?_⟩
        refine lc_list (xs := vs) (fun j H' => Same H4 H' ∧ H' D2 = some (.lst (((ts.take j).map (fitT i us)).map V.bl))) ⟨same_upd nD2, upd_same⟩ (fun i H' hi h => .inl (.inl (h.1 _ _ eD))) (fun j x H5 hx h => ?_) (fun H5 h => ?_)
        · obtain ⟨s5, e5⟩ := h
          obtain ⟨t, ht, dt⟩ := datas_at (DpAll.tk (.of s5) (noL_datas _) rv) hx
          have li := (List.getElem?_eq_some_iff.mp hx).1
          obtain ⟨own, gd, po, d6, l40⟩ := pt t (List.mem_of_getElem? ht)
          refine ⟨rfl, _, rfl, _, rfl, _, rfl, own, x, t, i, ka, kvs, us, rfl, dt, gd, po, d6, l40, m12.1, m12.2, s5 _ _ (sm _ _ ek), kv.tk (.of (sm.trans s5)), fun H6 s6 => ?_⟩
          refine ⟨_, s6 _ _ e5, ?_, Same.set (s5.trans s6) nD2, ?_⟩
          · rw [List.length_map, List.length_map, List.length_take]
            exact small1000 (by omega)
          · rw [upd_same, take_one (fitT i us) ht, List.map_append]
            rfl
        · obtain ⟨s5, e5⟩ := h
          refine ⟨D2, _, rfl, .inl (.inl e5), ?_⟩
          have e4 : ((ts.take vs.length).map (fitT i us)).all id = partsFit i us := by
            rw [lv, List.take_length, List.all_map, et]
            rfl
          rw [e4]
          exact q _ (s03.trans (sm.trans s5))
end
end FS
set_option Elab.async false
set_option linter.all false
set_option maxRecDepth 100000
set_option maxHeartbeats 4000000
namespace FS
open PySem PySem.Spec PyProof.Rows L2
section
variable {P : Program} {w : World} {K : PySem.W.Frag} {mg : Str → Option Value} {base : Heap}
abbrev Nkinds_of : List Str := ["arguments", "argument"]
theorem sckinds_of : FnScope Nkinds_of ["arguments"] (defScope skinds_of) := ⟨rfl, rfl, rfl, by decide +kernel, rfl, by decide +kernel, by decide +kernel⟩
theorem ok_kinds_of {f : Addr} {fd : FuncData} (F : Fun K "kinds_of" "kinds_of" skinds_of f fd) (T : Nm K mg) (Ckind_of : Cal P w K mg base 1 "kind_of" ["value"] (spKind K)) : FnOk P w K mg base CX0 2 f fd ["arguments"] (spKindsOf K) := by
  have nd := sckinds_of.nd
  refine F.ok sckinds_of (fun vs H Q E h => ?_) (fun cdv A outer s H vs Q E hr h => ?_)
  · obtain ⟨p, xs, us, own, rfl, sq, dp, gd, po, l100, q⟩ := h
    rfl
  · obtain ⟨p, xs, us, own, rfl, sq, dp, gd, po, l100, q⟩ := h
    skip
    refine ⟨_, (pss_one (ps_ret (pe_callTy call_tuple_of (by rfl) T.b_tuple (by decide +kernel) (pa_cons (pe_lc (own := [("argument", 1)]) (g := gName 1) (tt := tYes) rfl nd (pi_tup (pv 0)) (blkOk_by (own := [("argument", 1)]) (N := Nkinds_of) (sc := defScope skinds_of) (by decide +kernel)) (fun _ _ _ _ _ => (pg_name (i := 1) nd rfl (Or.inl rfl))) (fun _ _ _ _ _ => pts_nil) (fun _ _ _ _ _ => (pe_own Ckind_of (hr.mono (by decide)) (by rfl) (pa_cons (pv 1) pa_nil)))) pa_nil)))), ?_⟩

    refine ⟨_, rfl, p, rfl, ⟨xs, sq⟩, fun D nD => ?_⟩
    have lx : xs.length = us.length := by rw [DpAll.len dp, datas_len]
    refine lc_tup (xs := xs) (fun i H' => Same H H' ∧ H' D = some (.lst (((us.take i).map Tm.isW).map fun b => V.str (kd b)))) ⟨same_upd nD, upd_same⟩ (fun i H' hi h => Same.sqT h.1 sq) (fun i x H8 hx h => ?_) (fun H8 h => ?_)
    · obtain ⟨sm, eD⟩ := h
      obtain ⟨u, hu, du⟩ := datas_at (DpAll.tk (.of sm) (noL_datas _) dp) hx
      obtain ⟨g, lo⟩ := gd u (List.mem_of_getElem? hu)
      have li := (List.getElem?_eq_some_iff.mp hx).1
      refine ⟨rfl, _, rfl, own, x, u, rfl, ⟨du, g, po, by omega⟩, fun H9 s9 => ?_⟩
      refine ⟨_, s9 _ _ eD, ?_, Same.set (sm.trans s9) nD, ?_⟩
      · rw [List.length_map, List.length_map, List.length_take]
        exact Nat.lt_of_le_of_lt (Nat.min_le_right _ _) (small1000 (by omega))
      · rw [upd_same, take_more hu, List.map_append, List.map_append]
        rfl
    · obtain ⟨s8, eD⟩ := h
      rw [lx, List.take_length] at eD
      refine ⟨D, _, rfl, .inl ⟨.inl (.inl eD), fun q1 nq => ?_⟩⟩
      exact q _ q1 (s8.trans (same_upd nq)) upd_same
end
end FS
set_option Elab.async false
set_option linter.all false
set_option maxRecDepth 100000
set_option maxHeartbeats 4000000
namespace FS
open PySem PySem.Spec PyProof.Rows L2
section
variable {P : Program} {w : World} {K : PySem.W.Frag} {mg : Str → Option Value} {base : Heap}
abbrev Nhave_wraps : List Str := ["procedures", "procedure"]
theorem schave_wraps : FnScope Nhave_wraps ["procedures"] (defScope shave_wraps) := ⟨rfl, rfl, rfl, by decide +kernel, rfl, by decide +kernel, by decide +kernel⟩
theorem ok_have_wraps {f : Addr} {fd : FuncData} (F : Fun K "have_wraps" "have_wraps" shave_wraps f fd) (T : Nm K mg) {C : Addr} (TP : NmP mg) (G : PrG P w K mg base C) (Rkinds : PrP P w K mg base C "kinds" "_kinds") : FnOk P w K mg base CX0 3 f fd ["procedures"] (spHave K C) := by
  have nd := schave_wraps.nd
  refine F.ok schave_wraps (fun vs H Q E h => ?_) (fun cdv A outer s H vs Q E hr h => ?_)
  · obtain ⟨p, xs, us, rfl, sq, ps, l8, q⟩ := h
    rfl
  · obtain ⟨p, xs, us, rfl, sq, ps, l8, q⟩ := h
    skip
    refine ⟨_, (pss_one (ps_ret (pe_callB (cr_any rfl) (by rfl) TP.b_any (by decide +kernel) (pa_cons (pe_lc (own := [("procedure", 1)]) (g := gName 1) (tt := tYes) rfl nd (pi_tup (pv 0)) (blkOk_by (own := [("procedure", 1)]) (N := Nhave_wraps) (sc := defScope shave_wraps) (by decide +kernel)) (fun _ _ _ _ _ => (pg_name (i := 1) nd rfl (Or.inl rfl))) (fun _ _ _ _ _ => pts_nil) (fun _ _ _ _ _ => (pe_cmpR (op_inK (K := K) rfl) pe_str (pe_prK Rkinds rfl rfl rfl rfl rfl G.c.cl (hr.mono (by decide)) (pv 1) rfl) (by rfl)))) pa_nil)))), ?_⟩

    have lx := ps.len
    refine ⟨_, rfl, p, rfl, ⟨xs, sq⟩, fun D nD => ?_⟩
    refine lc_tup (xs := xs) (fun i H' => Same H H' ∧ H' D = some (.lst (((us.take i).map fun u => u.2.1.any (·.2)).map V.bl))) ⟨same_upd nD, upd_same⟩ (fun i H' hi h => Same.sqT h.1 sq) (fun i x H2 hx h => ?_) (fun H' h => ?_)
    · obtain ⟨sm, eD⟩ := h
      obtain ⟨a, u, rfl, hu, pa⟩ := (ps.same sm).get hx
      have li := (List.getElem?_eq_some_iff.mp hx).1
      obtain ⟨⟨dx, pv', bv, pb, ka, wa, ua, ys, ws, vs, h1, h2, h3, h4, h5, h6, -⟩, -⟩ := pa
      obtain ⟨aw, zs, ez, sz, rz⟩ := Dp.tup_inv (show Dp K H2 (.ref ka) (.tuple (u.2.1.map fun p => .str (kd p.2))) from h6)
      cases ez
      have ez2 : ∀ l : List (Str × Bool), ∀ {zs : List V}, DpAll K H2 zs (l.map fun p => PyData.str (kd p.2)) → zs = (l.map fun p => kd p.2).map V.str := fun l => by
        induction l with
        | nil => intro zs r; cases r; rfl
        | cons p l ih =>
          intro zs r
          cases r with
          | cons h r =>
            cases Dp.str_inv h
            rw [ih r]
            rfl
      have ez3 := ez2 _ rz
      subst ez3
      refine ⟨rfl, _, rfl, a, dx, _, rfl, h1, a, dx, _, _, rfl, h1, lk5, ?_⟩
      refine ⟨ka, _, rfl, .inr sz, rfl, flat_strs _, ?_⟩
      rw [inV_strs, wrap_in]
      refine ⟨_, eD, ?_, Same.set sm nD, ?_⟩
      · rw [List.length_map, List.length_map, List.length_take]
        exact Nat.lt_of_le_of_lt (Nat.min_le_right _ _) (small1000 (by omega))
      · rw [upd_same, take_one (fun u : RowU => u.2.1.any (·.2)) hu, List.map_append]
        rfl
    · obtain ⟨sm, eD⟩ := h
      rw [lx, List.take_length] at eD
      refine ⟨D, _, rfl, .inl (.inl eD), ?_⟩
      have e4 : (us.map fun u => u.2.1.any (·.2)).any id = wrapsIn us := by
        unfold wrapsIn
        rw [List.any_map]
        rfl
      rw [e4]
      exact q H' sm
end
end FS
set_option Elab.async false
set_option linter.all false
set_option maxRecDepth 100000
set_option maxHeartbeats 6400000
/-! set(a tuple of tuples of ints), and its length -/
namespace SQ
open PySem PySem.Spec PyProof.Rows L2
section
variable {P : Program} {w : World} {A : Around} {E : Value → Shared → Prop} {s : Shared}
theorem none_at {h : Heap} {b : Addr} (hb : h.objs.size ≤ b) : h.get? b = none := by
  cases q : h.get? b with
  | none => rfl
  | some o => exact absurd (Nat.lt_of_lt_of_le (Heap.lt_size q) hb) (Nat.lt_irrefl _)
theorem made {l : Addr} {items : Array Value} {ks : List (Addr × List Int)} {Q : Value → Shared → Prop} (hh : A.handled = none) (hl : s.heap.IsTuple l items) (hit : items.toList = ks.map fun p => Value.ref p.1) (hk : ∀ p ∈ ks, IsT P w s.heap p.2 p.1) (few : ks.length < 64) (hu : A.units + 3 < cLine)
    (h : ∀ (h' : Heap) (tk : Nat) L es ep t, SetTR P w h' s.heap.objs.size L es ep t → L2.Got ks ks.length L → (∀ b o, s.heap.get? b = some o → h'.get? b = some o) → Q (.ref s.heap.objs.size) { s with heap := h', toks := tk }) :
    wpAny (model P w) A (call (.type "set") [.ref l]) Q E s := by
  have hisz : items.size = ks.length := by
    rw [← Array.length_toList, hit, List.length_map]
  obtain ⟨c, tl, hmro⟩ := PySem.F.called_set.mro
  have hmade := PySem.F.called_set.made
  have hsub := PySem.F.called_set.sub
  refine wpAny_call (codeAny_of_tree ?_)
  show wpAny _ _ (callAny (.type "set") _) _ _ _
  refine wpAny_pure ⟨Code.quiet_builtin _ (by decide +kernel), codeAny_builtin PySem.F.entry_type_call ?_⟩
  rw [Around.under_plain (weight_type_call_type "set" [.ref l] []) rfl]
  have h1 := PySem.F.called_set.notType
  have h2 := PySem.F.called_set.canCreate
  have hct := PySem.F.typeCall_set_1 (.ref l)
  repeat (any_goals (first | assumption | wp_step))
  refine codeAny_mono (L2.code_set_led1 (.ref l) (E := E) (Q₁ := fun obj s₁ => obj = .ref s.heap.objs.size ∧ s₁ = { s with heap := s.heap.push { cls := .type "set", dict := none, data := .set #[] 0 (.fresh 0 0 (!w.params.followText "set-order")) } }) ⟨rfl, rfl⟩) fun r s₁ hr => ?_
  cases r with
  | error e => exact hr
  | ok fl =>
    cases fl with
    | ret obj =>
      obtain ⟨rfl, rfl⟩ := hr
      have hS : (s.heap.push { cls := .type "set", dict := none, data := .set #[] 0 (.fresh 0 0 (!w.params.followText "set-order")) }).get? s.heap.objs.size = some { cls := .type "set", dict := none, data := .set #[] 0 (.fresh 0 0 (!w.params.followText "set-order")) } := Heap.get?_push_size _ rfl
      have hT : Shared.TypeIs { s with heap := s.heap.push { cls := .type "set", dict := none, data := .set #[] 0 (.fresh 0 0 (!w.params.followText "set-order")) } } (.ref s.heap.objs.size) "set" := ⟨_, hS, rfl⟩
      have hli := PySem.F.called_set.init.lookup
      have hbi := PySem.F.called_set.init.bind (.ref s.heap.objs.size)
      repeat (any_goals (first | assumption | wp_step))
      refine codeAny_mono (codeAny_call_builtin (R := wants (fun r s₂ => r = .none ∧ ∃ h' tk L es ep t, s₂ = { s with heap := h', toks := tk } ∧ SetTR P w h' s.heap.objs.size L es ep t ∧ L2.Got ks ks.length L ∧
          (∀ b o, s.heap.get? b = some o → h'.get? b = some o)) E) PySem.F.called_set.init.plain PySem.F.entry_set_init (check_set_init_1 hT ?_)) fun r₂ s₂ hr₂ => ?_
      · obtain ⟨ol, hol, hcl, nl, hdl⟩ := hl
        obtain ⟨ocls, odict, odata, oslots⟩ := ol
        simp only at hcl hdl
        subst hcl; subst hdl
        have hol' : (s.heap.push { cls := .type "set", dict := none, data := .set #[] 0 (.fresh 0 0 (!w.params.followText "set-order")) }).get? l = some { cls := .type "tuple", dict := odict, data := .seq items nl, slots := oslots } := Heap.get?_push_of_some _ hol
        have hsls := PySem.F.sub_tuple_set
        have hslf := PySem.F.sub_tuple_frozenset
        have hne : (Value.type "tuple" == Value.type "dict") = false := by decide
        have hl1 : (s.heap.push { cls := .type "set", dict := none, data := .set #[] 0 (.fresh 0 0 (!w.params.followText "set-order")) }).IsTuple l items := ⟨_, hol', rfl, nl, rfl⟩
        unfold Builtin.«set.__init__» noKeywords Builtin.Frozenset.updateFrom
        generalize hPI : pyIter = PI
        wp_walk
        subst hPI
        refine wpAny_pyIter_tuple hl1 ?_
        refine wpAny_bind (wpAny_runValue ?_)
        have hlS : l < s.heap.objs.size := Heap.lt_size hol
        have hh3 : A.in1.in1.in1.handled = none := by simp [hh]
        have hneI : l ≠ (s.heap.push { cls := .type "set", dict := none, data := .set #[] 0 (.fresh 0 0 (!w.params.followText "set-order")) }).objs.size := by
          rw [Heap.size_push]; exact Nat.ne_of_lt (Nat.lt_succ_of_lt hlS)
        have hSf : s.heap.objs.size ∉ [(s.heap.push { cls := .type "set", dict := none, data := .set #[] 0 (.fresh 0 0 (!w.params.followText "set-order")) }).objs.size, l] := by
          rw [Heap.size_push]; simp only [List.mem_cons, List.not_mem_nil, or_false, not_or]
          exact ⟨Nat.ne_of_lt (Nat.lt_succ_self _), Nat.ne_of_gt hlS⟩
        have hval : ∀ (i : Nat) (v : Value), items[i]? = some v → ∃ p, ks[i]? = some p ∧ v = .ref p.1 := fun i v hv => by
          have q : items.toList[i]? = some v := by rw [Array.getElem?_toList]; exact hv
          rw [hit, List.getElem?_map] at q
          obtain ⟨p, e1, e2⟩ := Option.map_eq_some_iff.mp q
          exact ⟨p, e1, e2.symm⟩
        refine set_update_tups ((Walks.tuple hh3 _ l hneI items).toS) s.heap.objs.size
          hSf ks hisz few hval s.heap hk (none_at (Nat.le_refl _)) (fun b hb => none_at (by
            rw [List.mem_singleton.mp hb, Heap.size_push]
            exact Nat.le_succ _)) hu (items.size - 0) 0 _ (by omega) (Nat.zero_le _)
          ⟨⟨_, Heap.get?_push_size _ rfl, rfl, rfl⟩, (hl1.push _)⟩ (fun b o e => Heap.get?_push_of_some _ (Heap.get?_push_of_some _ e)) ?hS0 ?hR
        case hS0 => exact ⟨[], #[], 0, _, setTR_fresh (Heap.get?_push_of_some _ hS), L2.Got.zero ks⟩
        case hR =>
          intro s' L es ep t hm hS' g' hkp
          obtain ⟨h', g2, d', tk', os'⟩ := s'
          have eg : g2 = s.gens := hm.gens
          have ed : d' = s.drawn := hm.drawn
          have eo : os' = s.os := hm.os
          subst eg; subst ed; subst eo
          show wpAny _ _ _ _ _ _
          refine wpAny_pure ?_
          show wpAny _ _ (ret Value.none) _ _ _
          rw [hisz] at g'
          exact wpAny_pure ⟨rfl, h', tk', L, es, ep, t, rfl, hS', g', hkp⟩
      · cases r₂ with
        | error e => exact hr₂
        | ok fl₂ =>
          cases fl₂ with
          | ret r =>
            obtain ⟨rfl, h', tk, L, es, ep, t, rfl, hS', g', hk'⟩ := hr₂
            repeat (any_goals (first | assumption | wp_step))
            exact h _ _ _ _ _ _ hS' g' hk'
          | _ => exact hr₂.elim
    | _ => exact hr.elim
end
end SQ
/-! relations as numbers, and as lists of pairs -/
set_option linter.all false
namespace SQ
def orP : List Nat → Nat
  | [] => 0
  | b :: r => 2 ^ b ||| orP r
theorem orP_bit : ∀ (l : List Nat) (i : Nat), (orP l).testBit i = decide (i ∈ l)
  | [], i => by simp [orP]
  | b :: r, i => by
    show (2 ^ b ||| orP r).testBit i = _
    rw [Nat.testBit_or, Nat.testBit_two_pow, orP_bit r i]
    simp only [List.mem_cons, Bool.decide_or]
    congr 1
    exact decide_eq_decide.mpr eq_comm
theorem add_or {x b : Nat} (h : x.testBit b = false) : 2 ^ b + x = 2 ^ b ||| x := by
  have hr : x % 2 ^ (b + 1) < 2 ^ b := by
    refine Nat.lt_pow_two_of_testBit _ fun i hi => ?_
    rw [Nat.testBit_mod_two_pow]
    by_cases e : i = b
    · subst e
      rw [h, Bool.and_false]
    · rw [decide_eq_false (by omega), Bool.false_and]
  have hx : 2 ^ (b + 1) * (x / 2 ^ (b + 1)) + x % 2 ^ (b + 1) = x := Nat.div_add_mod _ _
  generalize x % 2 ^ (b + 1) = r at hr hx
  generalize x / 2 ^ (b + 1) = q at hx
  have e1 : 2 ^ b + r = 2 ^ b ||| r := by
    have := Nat.two_pow_add_eq_or_of_lt hr 1
    rwa [Nat.mul_one] at this
  have hp : 2 ^ (b + 1) = 2 ^ b * 2 := Nat.pow_succ ..
  have e2 : 2 ^ (b + 1) * q + (2 ^ b + r) = 2 ^ (b + 1) * q ||| (2 ^ b + r) := Nat.two_pow_add_eq_or_of_lt (by omega) q
  have e3 : 2 ^ (b + 1) * q + r = 2 ^ (b + 1) * q ||| r := Nat.two_pow_add_eq_or_of_lt (by omega) q
  have e4 : 2 ^ b + x = 2 ^ (b + 1) * q + (2 ^ b + r) := by omega
  rw [e4, e2, e1, ← hx, e3, ← Nat.or_assoc, ← Nat.or_assoc, Nat.or_comm (2 ^ (b + 1) * q)]
theorem sum_orP : ∀ {l : List Nat}, l.Nodup → (l.map (2 ^ ·)).sum = orP l
  | [], _ => rfl
  | b :: r, h => by
    have ⟨h1, h2⟩ := List.nodup_cons.mp h
    rw [List.map_cons, List.sum_cons, sum_orP h2, add_or (by rw [orP_bit]; exact decide_eq_false h1)]
    rfl
abbrev Pr := Nat × Nat
def prs (e r : Nat) : List Pr := ((List.range 12).filter fun b => r.testBit b).map fun b => (b / e, b % e)
/-- the relation of all pairs (m, m) -/
def sameN (m e : Nat) : Nat := orP ((List.range m).map fun i => i * e + i)
end SQ
namespace SQ
theorem cast_sum (l : List Nat) : (l.map fun n : Nat => (n : Int)).sum = ((l.sum : Nat) : Int) := by
  induction l with
  | nil => rfl
  | cons x r ih => rw [List.map_cons, List.sum_cons, List.sum_cons, ih, Int.natCast_add]
theorem diag_nodup (m e : Nat) : ((List.range m).map fun i => i * e + i).Nodup := by
  rw [List.nodup_iff_pairwise_ne, List.pairwise_map]
  refine List.Pairwise.imp (fun {a b} h z => ?_) List.pairwise_lt_range
  have := Nat.mul_le_mul_right e (Nat.le_of_lt h)
  omega
theorem same_sum (m e : Nat) : ((List.range m).map fun i => ((2 ^ (i * e + i) : Nat) : Int)).sum = ((sameN m e : Nat) : Int) := by
  have h := sum_orP (diag_nodup m e)
  rw [List.map_map] at h
  rw [show sameN m e = orP ((List.range m).map fun i => i * e + i) from rfl, ← h, ← cast_sum, List.map_map]
  rfl
end SQ
set_option Elab.async false
set_option linter.all false
set_option maxRecDepth 100000
set_option maxHeartbeats 4000000
/-! own classes: ==, !=, str by their own defs; ranges as values; whole numbers from 0 on -/
namespace SQ
open PySem PySem.Spec PyProof.Rows L2
section
variable {X : Cx}
/-! ### ranges kept -/
/-! ### whole numbers from 0 on -/
theorem op_shlNN : OpR X (binaryOp .LShift) (fun x y H Q => ∃ n k : Nat, x = .int (n : Int) ∧ y = .int (k : Int) ∧ n < 2 ^ 64 ∧ k ≤ 1000000 ∧ Q (.int ((n * 2 ^ k : Nat) : Int)) H) := by
  intro pins s σ H x y v u Q I rx ry h
  obtain ⟨n, k, rfl, rfl, c1, c2, q⟩ := h
  have e : ((n * 2 ^ k : Nat) : Int) = (n : Int) * 2 ^ ((k : Int)).toNat := by rw [Int.toNat_natCast, Int.natCast_mul, PySem.W.kbt_cast]
  rw [e] at q
  exact op_shl pins s σ H _ _ v u Q I rx ry ⟨_, _, rfl, rfl, ⟨Int.natCast_nonneg _, by omega, by omega⟩, q⟩
end
end SQ
set_option Elab.async false
set_option linter.all false
set_option maxRecDepth 100000
set_option maxHeartbeats 4000000
namespace SQ
open PySem PySem.Spec PyProof.Rows L2
structure Cal (P : Program) (w : World) (K : PySem.W.Frag) (mg : Str → Option Value) (base : Heap) (k : Nat) (x : Str) (ps : List Str) (sp : Sp) : Prop where
  ex : ∃ (f : Addr) (fd : FuncData), FnOk P w K mg base CX0 k f fd ps sp ∧ mg x = some (.ref f) ∧ PySem.W.keepIn K (.ref f) = true ∧ Binds K fd ps []
theorem pe_own {X : Cx} {x : Str} {k : Nat} {ps : List Str} {sp : Sp} {e : Expr} {es : List Expr} {t : TA} {p pos : Pos} (C : Cal X.prog X.w X.K X.mg X.base k x ps sp) (hr : Room k X.A) (hg : Gl X x) (ha : PA X (e :: es) t) (hdb : (x == ("__debug__" : Str)) = false := by decide) (he : starEach (e :: es) X.env = (false, eval e X.env) :: starEach es X.env := by rfl) (hpl : (backTo pos (starEach es X.env)).any (·.1) = false := by rfl) :
    PE X (.Call (.Name x p) (e :: es) [] pos) (tCall sp [] E0 t) := by
  obtain ⟨f, fd, F, m, kp, b⟩ := C.ex
  exact pe_call F hr hg m kp b .nil pass0 ha hdb he hpl
/-! ### heaps -/
theorem same_upd {H : Hp} {p : Addr} {o : HO} (h : H p = none) : Same H (upd H p o) := fun b x e => by
  rw [upd_ne (ne_of_none e h)]
  exact e
theorem Same.trans {H H1 H2 : Hp} (a : Same H H1) (b : Same H1 H2) : Same H H2 := fun p o e => b p o (a p o e)
theorem Same.rfl {H : Hp} : Same H H := fun _ _ e => e
theorem Same.seq {K : PySem.W.Frag} {H H' : Hp} {b : Addr} {xs : List V} (g : Same H H') (h : SqL K H b xs) : SqL K H' b xs := by
  rcases h with (h | ⟨o, h⟩) | h
  · exact .inl (.inl (g _ _ h))
  · exact .inl (.inr ⟨o, g _ _ h⟩)
  · exact .inr h
theorem Same.sqT {K : PySem.W.Frag} {H H' : Hp} {b : Addr} {xs : List V} (g : Same H H') (h : SqT K H b xs) : SqT K H' b xs := by
  rcases h with (h | ⟨o, h⟩) | h
  · exact .inl (.inl (g _ _ h))
  · exact .inl (.inr ⟨o, g _ _ h⟩)
  · exact .inr h
/-- a new object is changed again -/
theorem Same.set {H H' : Hp} {D : Addr} {o : HO} (s : Same H H') (h : H D = none) : Same H (upd H' D o) := fun b x e => by
  rw [upd_ne (ne_of_none e h)]
  exact s b x e
def Die (H : Hp) (a : Addr) : Prop := ∃ x y z : Int, H a = some (.lst [.int x, .int y, .int z])
/-- all but a is as it was, and a is an urn -/
def Go (a : Addr) (H H' : Hp) : Prop := (∀ b o, b ≠ a → H b = some o → H' b = some o) ∧ Die H' a
theorem Die.same {H H' : Hp} {a : Addr} (d : Die H a) (s : Same H H') : Die H' a := by
  obtain ⟨x, y, z, e⟩ := d
  exact ⟨x, y, z, s _ _ e⟩
theorem Go.of {H H' : Hp} {a : Addr} (d : Die H a) (s : Same H H') : Go a H H' := ⟨fun b o _ e => s b o e, d.same s⟩
theorem Go.trans {H H1 H2 : Hp} {a : Addr} (x : Go a H H1) (y : Go a H1 H2) : Go a H H2 := ⟨fun b o n e => y.1 b o n (x.1 b o n e), y.2⟩
theorem Go.put {H : Hp} {a : Addr} {x y z : Int} : Go a H (upd H a (.lst [.int x, .int y, .int z])) := ⟨fun b o n e => by rw [upd_ne n]; exact e, x, y, z, upd_same⟩
theorem Go.new {H : Hp} {a p : Addr} {o : HO} (d : Die H a) (h : H p = none) : Go a H (upd H p o) := .of d (same_upd h)
theorem Die.ne {H : Hp} {a p : Addr} (d : Die H a) (h : H p = none) : p ≠ a := fun e => by
  obtain ⟨x, y, z, q⟩ := d
  rw [← e, h] at q
  cases q
theorem Die.neT {H : Hp} {a p : Addr} {o : HO} (d : Die H a) (h : H p = some o) (n : ∀ xs, o ≠ .lst xs) : p ≠ a := fun e => by
  obtain ⟨x, y, z, q⟩ := d
  rw [← e, h] at q
  exact n _ (Option.some.inj q)
theorem Go.seq {K : PySem.W.Frag} {H H' : Hp} {a b : Addr} {xs : List V} (g : Go a H H') (n : b ≠ a) (h : SqL K H b xs) : SqL K H' b xs := by
  rcases h with (h | ⟨o, h⟩) | h
  · exact .inl (.inl (g.1 _ _ n h))
  · exact .inl (.inr ⟨o, g.1 _ _ n h⟩)
  · exact .inr h
theorem Go.sqT {K : PySem.W.Frag} {H H' : Hp} {a b : Addr} {xs : List V} (d : Die H a) (g : Go a H H') (h : SqT K H b xs) : SqT K H' b xs := by
  rcases h with (h | ⟨o, h⟩) | h
  · exact .inl (.inl (g.1 _ _ (d.neT h (by intro xs z; cases z)) h))
  · exact .inl (.inr ⟨o, g.1 _ _ (d.neT h (by intro xs z; cases z)) h⟩)
  · exact .inr h
/-! ### the module's names -/
structure Nm (mg : Str → Option Value) : Prop where
  b_isinstance : mg "isinstance" = none
  b_int : mg "int" = none
  b_bool : mg "bool" = none
  b_str : mg "str" = none
  b_tuple : mg "tuple" = none
  b_list : mg "list" = none
  b_len : mg "len" = none
  b_all : mg "all" = none
  b_sum : mg "sum" = none
  b_set : mg "set" = none
  b_range : mg "range" = none
  b_abs : mg "abs" = none
  b_max : mg "max" = none
  b_min : mg "min" = none
  b_sorted : mg "sorted" = none
  b_divmod : mg "divmod" = none
  b_repr : mg "repr" = none
  b_zip : mg "zip" = none
  g_MAX_MODES : ∃ t, mg "MAX_MODES" = some (.int 3 t)
/-! ### values that are passed -/
/-- None, a bool, a whole number, a tuple, a list, a dict -/
inductive Pl (K : PySem.W.Frag) (H : Hp) : V → Prop
  | non : Pl K H .non
  | bl (b : Bool) : Pl K H (.bl b)
  | int (i : Int) : Pl K H (.int i)
  | tup {p : Addr} {xs : List V} (e : SqT K H p xs) : Pl K H (.ref p)
  | lst {p : Addr} {xs : List V} (e : H p = some (.lst xs)) : Pl K H (.ref p)
  | dct {p : Addr} {kvs : List (Key × V)} (e : H p = some (.dK kvs)) : Pl K H (.ref p)
def isI : V → Bool
  | .int _ => true
  | _ => false
/-- an integer from a to b -/
def inB (a b : Int) : V → Bool
  | .int i => decide (a ≤ i) && decide (i ≤ b)
  | _ => false
/-! ### pairs -/
def prV (p : Pr) : List V := [.int (p.1 : Int), .int (p.2 : Int)]
def Prs (K : PySem.W.Frag) (H : Hp) (ks : List (Addr × Pr)) : Prop := ∀ q ∈ ks, SqT K H q.1 (prV q.2)
abbrev refs (ks : List (Addr × Pr)) : List V := ks.map fun q => V.ref q.1
abbrev prsOf (ks : List (Addr × Pr)) : List Pr := ks.map (·.2)
theorem Prs.same {K : PySem.W.Frag} {H H' : Hp} {ks : List (Addr × Pr)} (g : Prs K H ks) (s : Same H H') : Prs K H' ks := fun q hq => Same.sqT s (g q hq)
theorem Prs.go {K : PySem.W.Frag} {H H' : Hp} {a : Addr} {ks : List (Addr × Pr)} (g : Prs K H ks) (d : Die H a) (s : Go a H H') : Prs K H' ks := fun q hq => Go.sqT d s (g q hq)
theorem Prs.nil {K : PySem.W.Frag} {H : Hp} : Prs K H [] := fun q hq => nomatch hq
theorem Prs.app {K : PySem.W.Frag} {H : Hp} {ks ls : List (Addr × Pr)} (a : Prs K H ks) (b : Prs K H ls) : Prs K H (ks ++ ls) := fun q hq => (List.mem_append.mp hq).elim (a q) (b q)
theorem Prs.one {K : PySem.W.Frag} {H : Hp} {p : Addr} {x : Pr} (h : SqT K H p (prV x)) : Prs K H [(p, x)] := fun q hq => by
  cases List.mem_singleton.mp hq
  exact h
/-! ### spaces -/
def en (m : Nat) (b : Bool) : Nat := m + b.toNat
def spF (m : Nat) (b : Bool) : List (Str × V) := [("_modes", .int (m : Int)), ("_watched", .bl b), ("_ends", .int (en m b : Nat)), ("_size", .int ((2 ^ (m * en m b) : Nat) : Int)), ("_same", .int (sameN m (en m b) : Nat))]
def SpAt (C : Addr) (H : Hp) (p : Addr) (m : Nat) (b : Bool) : Prop := (1 ≤ m ∧ m ≤ 3) ∧ ∃ dx, H p = some (.ins C dx (spF m b))
theorem SpAt.same {C : Addr} {H H' : Hp} {p : Addr} {m : Nat} {b : Bool} (h : SpAt C H p m b) (s : Same H H') : SpAt C H' p m b := ⟨h.1, by
  obtain ⟨dx, e⟩ := h.2
  exact ⟨dx, s _ _ e⟩⟩
theorem SpAt.go {C : Addr} {H H' : Hp} {p a : Addr} {m : Nat} {b : Bool} (h : SpAt C H p m b) (d : Die H a) (s : Go a H H') : SpAt C H' p m b := ⟨h.1, by
  obtain ⟨dx, e⟩ := h.2
  exact ⟨dx, s.1 _ _ (d.neT e (by intro xs z; cases z)) e⟩⟩
theorem en_le {m : Nat} {b : Bool} (h : 1 ≤ m ∧ m ≤ 3) : 1 ≤ en m b ∧ en m b ≤ 4 := by
  unfold en
  cases b <;> simp [Bool.toNat] <;> omega
theorem men_le {m : Nat} {b : Bool} (h : 1 ≤ m ∧ m ≤ 3) : m * en m b ≤ 12 := by
  have h1 := (en_le (b := b) h).2
  have := Nat.mul_le_mul h.2 h1
  omega
theorem size_le {m : Nat} {b : Bool} (h : 1 ≤ m ∧ m ≤ 3) : 2 ^ (m * en m b) ≤ 4096 := Nat.pow_le_pow_right (n := 2) (by decide) (men_le h)
/-- the class -/
structure SpC (K : PySem.W.Frag) (mg : Str → Option Value) (C : Addr) : Prop where
  cl : Cls K C
  gC : mg "Space" = some (.ref C)
  a1 : PySem.W.findIn K (.ref C) "_modes" = some none
  a2 : PySem.W.findIn K (.ref C) "_watched" = some none
  a3 : PySem.W.findIn K (.ref C) "_ends" = some none
  a4 : PySem.W.findIn K (.ref C) "_size" = some none
  a5 : PySem.W.findIn K (.ref C) "_same" = some none
  ha : PySem.W.findIn K (.ref C) "__class__" = some (some (.builtin "object.__class__"))
  hn : PySem.W.specialIn K (.builtin "object.__class__") "__get__" = some (some (.builtin "getset_descriptor.__get__"))
  htk : PySem.W.takesIn K (.builtin "object.__class__") = some true
  hm : PySem.W.mroIn K C (.type "object") = some true
  self : PySem.W.kitOne K (.ref C) (.ref C) = some true
  kt : PySem.W.kitOne K (.type "tuple") (.ref C) = some false
  nt : PySem.W.notFirst K C (.type "tuple") = true
  ns : PySem.W.notFirst K C (.ref C) = true
theorem lkH {k : Str} {v : V} {r : List (Str × V)} : List.lookup k ((k, v) :: r) = some v := by
  have e : (k == k) = true := beq_self_eq_true k
  simp only [List.lookup, e]
theorem lkP {k g : Str} {v : V} {r : List (Str × V)} (h : (k == g) = false) : List.lookup k ((g, v) :: r) = List.lookup k r := by
  simp only [List.lookup, h]
theorem putA {f g : Str} {v x : V} {r : List (Str × V)} (h : ¬ g = f) : putF f v ((g, x) :: r) = (g, x) :: putF f v r := if_neg h
section
variable {m : Nat} {b : Bool}
theorem lk4 : (spF m b).lookup ("_size" : Str) = some (.int ((2 ^ (m * en m b) : Nat) : Int)) := (lkP (by decide +kernel)).trans ((lkP (by decide +kernel)).trans ((lkP (by decide +kernel)).trans lkH))
end
section
variable {a b c d v : V}
theorem pf2 : putF "_watched" v [("_modes", a)] = ([("_modes", a), ("_watched", v)] : List (Str × V)) := by
  rw [putA (by decide +kernel)]
  rfl
theorem pf3 : putF "_ends" v [("_modes", a), ("_watched", b)] = ([("_modes", a), ("_watched", b), ("_ends", v)] : List (Str × V)) := by
  rw [putA (by decide +kernel), putA (by decide +kernel)]
  rfl
theorem pf4 : putF "_size" v [("_modes", a), ("_watched", b), ("_ends", c)] = ([("_modes", a), ("_watched", b), ("_ends", c), ("_size", v)] : List (Str × V)) := by
  rw [putA (by decide +kernel), putA (by decide +kernel), putA (by decide +kernel)]
  rfl
theorem pf5 : putF "_same" v [("_modes", a), ("_watched", b), ("_ends", c), ("_size", d)] = ([("_modes", a), ("_watched", b), ("_ends", c), ("_size", d), ("_same", v)] : List (Str × V)) := by
  rw [putA (by decide +kernel), putA (by decide +kernel), putA (by decide +kernel), putA (by decide +kernel)]
  rfl
theorem lkm1 : ([("_modes", a), ("_watched", b), ("_ends", c)] : List (Str × V)).lookup ("_ends" : Str) = some c := (lkP (by decide +kernel)).trans ((lkP (by decide +kernel)).trans lkH)
theorem lkm2 : ([("_modes", a), ("_watched", b), ("_ends", c), ("_size", d)] : List (Str × V)).lookup ("_ends" : Str) = some c := (lkP (by decide +kernel)).trans ((lkP (by decide +kernel)).trans lkH)
end
/-! ### the promises -/
def spIntIn (K : PySem.W.Frag) : Sp := fun vs H Q _ => ∃ (v : V) (a b : Int), vs = [v, .int a, .int b] ∧ Pl K H v ∧ Q (.bl (inB a b v)) H
def spSame : Sp := fun vs H Q _ => ∃ m e : Nat, vs = [.int (m : Int), .int (e : Int)] ∧ m ≤ 3 ∧ e ≤ 4 ∧ ∀ H', Same H H' → Q (.int (sameN m e : Nat)) H'
def spInit (C : Addr) : Sp := fun vs H Q _ => ∃ (p dx : Addr) (m : Nat) (b : Bool), vs = [.ref p, .int (m : Int), .bl b] ∧ H p = some (.ins C dx []) ∧ 1 ≤ m ∧ m ≤ 3 ∧ ∀ H', (∀ c o, c ≠ p → H c = some o → H' c = some o) → H' p = some (.ins C dx (spF m b)) → Q .non H'
/-! the law's own -/
end SQ
set_option Elab.async false
set_option linter.all false
set_option maxRecDepth 100000
set_option maxHeartbeats 4000000
/-! comprehensions whose turns only make new objects (or draw) -/
namespace SQ
open PySem PySem.Spec PyProof.Rows L2
inductive Al {α : Type} (Φ : α → V → Prop) : List α → List V → Prop
  | nil : Al Φ [] []
  | cons {m : α} {y : V} {ms : List α} {ys : List V} : Φ m y → Al Φ ms ys → Al Φ (m :: ms) (y :: ys)
theorem Al.len {α : Type} {Φ : α → V → Prop} {ms : List α} {ys : List V} (a : Al Φ ms ys) : ys.length = ms.length := by
  induction a with
  | nil => rfl
  | cons _ _ ih => rw [List.length_cons, List.length_cons, ih]
theorem Al.snoc {α : Type} {Φ : α → V → Prop} {ms : List α} {ys : List V} {m : α} {y : V} (a : Al Φ ms ys) (h : Φ m y) : Al Φ (ms ++ [m]) (ys ++ [y]) := by
  induction a with
  | nil => exact .cons h .nil
  | cons x _ ih => exact .cons x ih
theorem Al.mono {α : Type} {Φ Ψ : α → V → Prop} {ms : List α} {ys : List V} (h : ∀ m y, Φ m y → Ψ m y) (a : Al Φ ms ys) : Al Ψ ms ys := by
  induction a with
  | nil => exact .nil
  | cons x _ ih => exact .cons (h _ _ x) ih
theorem Al.map {α : Type} {f : α → V} {ms : List α} {ys : List V} (a : Al (fun m y => y = f m) ms ys) : ys = ms.map f := by
  induction a with
  | nil => rfl
  | cons x _ ih => rw [x, ih]; rfl
/-- what a turn may do to the heap -/
structure Rg (R : Hp → Hp → Prop) (D : Addr) (H1 : Hp) : Prop where
  ini : R H1 (upd H1 D (.lst []))
  trans : ∀ {H H'}, R H1 H → R H H' → R H1 H'
  keep : ∀ {H H' o}, R H1 H → R H H' → H D = some o → H' D = some o
  set : ∀ {H o}, R H1 H → R H1 (upd H D o)
  put : ∀ {H o}, R H1 H → ∀ (b : Addr) (u : HO), b ≠ D → H b = some u → upd H D o b = some u
theorem Rg.same {D : Addr} {H1 : Hp} (n : H1 D = none) : Rg Same D H1 := ⟨same_upd n, fun a b => a.trans b, fun _ b e => b _ _ e, fun a => Same.set a n, fun _ b u hb e => by rw [upd_ne hb]; exact e⟩
theorem Rg.go {D a : Addr} {H1 : Hp} (d : Die H1 a) (n : H1 D = none) : Rg (Go a) D H1 := ⟨.new d n, fun a b => a.trans b, fun _ b e => b.1 _ _ (d.ne n) e, fun {H o} s => ⟨fun b u hb e => by
    rw [upd_ne (ne_of_none e n)]
    exact s.1 b u hb e, by
    obtain ⟨x, y, z, e⟩ := s.2
    exact ⟨x, y, z, by rw [upd_ne (d.ne n).symm]; exact e⟩⟩, fun _ b u hb e => by rw [upd_ne hb]; exact e⟩
theorem filt_more {α : Type} {ms : List α} {i : Nat} {m : α} (p : α → Bool) (h : ms[i]? = some m) : (ms.take (i + 1)).filter p = (ms.take i).filter p ++ if p m = true then [m] else [] := by
  rw [take_next h, List.filter_append]
  by_cases e : p m = true
  · rw [if_pos e, List.filter_cons_of_pos e]
    rfl
  · rw [if_neg e, List.filter_cons_of_neg e]
    rfl
section
variable {α : Type} {g : TG} {tt : TT} {te : TE} {vs : List Nat} {σ : L2.St} {H1 : Hp} {D : Addr} {Qd : Hp → Prop} {R : Hp → Hp → Prop} {ms : List α} {gv : α → V} {p : α → Bool} {Φ : α → V → Hp → Prop}
/-- the state between two turns -/
def Mid (R : Hp → Hp → Prop) (p : α → Bool) (Φ : α → V → Hp → Prop) (ms : List α) (D : Addr) (H1 : Hp) (i : Nat) (H : Hp) : Prop := R H1 H ∧ ∃ ys, H D = some (.lst ys) ∧ Al (fun m y => Φ m y H) ((ms.take i).filter p) ys
theorem Mid.ini (r : Rg R D H1) : Mid R p Φ ms D H1 0 (upd H1 D (.lst [])) := ⟨r.ini, [], upd_same, by rw [List.take_zero]; exact .nil⟩
theorem Mid.turn (r : Rg R D H1) (st : ∀ m y H H', R H1 H → R H H' → Φ m y H → Φ m y H') (su : ∀ m y H o, R H1 H → (∃ ys, H D = some (.lst ys)) → Φ m y H → Φ m y (upd H D o)) (few : ms.length < 1000000) {i : Nat} {m : α} {H : Hp} (hm : ms[i]? = some m) (md : Mid R p Φ ms D H1 i H) :
    (p m = true → ∀ y H4, R H H4 → Φ m y H4 → ∃ acc, H4 D = some (.lst acc) ∧ acc.length < sizeLine ∧ Mid R p Φ ms D H1 (i + 1) (upd H4 D (.lst (acc ++ [y])))) ∧ (p m = false → ∀ H4, R H H4 → Mid R p Φ ms D H1 (i + 1) H4) := by
  obtain ⟨r1, ys, e, al⟩ := md
  have hi : i < ms.length := (List.getElem?_eq_some_iff.mp hm).1
  refine ⟨fun hp y H4 r4 h => ?_, fun hp H4 r4 => ?_⟩
  · refine ⟨ys, r.keep r1 r4 e, ?_, r.set (r.trans r1 r4), ys ++ [y], upd_same, ?_⟩
    · rw [al.len, sizeLine_eq]
      have := List.length_filter_le p (ms.take i)
      rw [List.length_take] at this
      omega
    · rw [filt_more p hm, if_pos hp]
      exact (al.mono fun m y h => su m y H4 _ (r.trans r1 r4) ⟨_, r.keep r1 r4 e⟩ (st m y H H4 r1 r4 h)).snoc (su m y H4 _ (r.trans r1 r4) ⟨_, r.keep r1 r4 e⟩ h)
  · refine ⟨r.trans r1 r4, ys, r.keep r1 r4 e, ?_⟩
    rw [filt_more p hm, if_neg (by rw [hp]; decide), List.append_nil]
    exact al.mono fun m y h => st m y H H4 r1 r4 h
/-- [.. for x in xs if ..], xs a list -/
theorem lcL {K : PySem.W.Frag} {a : Addr} {xs : List V} (ms : List α) (gv : α → V) (p : α → Bool) (Φ : α → V → Hp → Prop) (hx : xs = ms.map gv) (r : Rg R D H1) (sq : ∀ H, R H1 H → SqL K H a xs) (st : ∀ m y H H', R H1 H → R H H' → Φ m y H → Φ m y H') (su : ∀ m y H o, R H1 H → (∃ ys, H D = some (.lst ys)) → Φ m y H → Φ m y (upd H D o)) (few : ms.length < 1000000)
    (hs : ∀ m H (Ok : V → Hp → Prop) (No : Hp → Prop), m ∈ ms → R H1 H → (∃ ys, H D = some (.lst ys)) → (p m = true → ∀ y H4, R H H4 → Φ m y H4 → Ok y H4) → (p m = false → ∀ H4, R H H4 → No H4) → g (gv m) (wipe σ vs) H fun σ2 H2 => wipe σ2 vs = wipe σ vs ∧ tt σ2 H2 fun b H3 => if b = true then te σ2 H3 Ok else No H3)
    (hd : ∀ H ys, R H1 H → H D = some (.lst ys) → Al (fun m y => Φ m y H) (ms.filter p) ys → Qd H) :
    ∃ W : Nat → Nat → Hp → Prop, (∃ m, W 0 m (upd H1 D (.lst []))) ∧ ∀ i m H, W i m H →
      ((Itl K a).stop i H ∧ Qd H) ∨ ((Itl K a).go i H ∧ ∃ Nx : Hp → Prop, (∀ H', Nx H' → ∃ m', m' < m ∧ W (i + 1) m' H') ∧ ∀ x H', (Itl K a).yld i H x H' → g x (wipe σ vs) H' fun σ2 H2 => wipe σ2 vs = wipe σ vs ∧ tt σ2 H2 fun b H3 =>
        if b = true then te σ2 H3 fun y H4 => ∃ acc, H4 D = some (.lst acc) ∧ acc.length < sizeLine ∧ Nx (upd H4 D (.lst (acc ++ [y]))) else Nx H3) := by
  subst hx
  refine lc_list (xs := ms.map gv) (Mid R p Φ ms D H1) (Mid.ini r) (fun i H _ h => sq H h.1) (fun i x H hx md => ?_) (fun H md => ?_)
  · rw [List.getElem?_map] at hx
    obtain ⟨m, hm, rfl⟩ := Option.map_eq_some_iff.mp hx
    obtain ⟨t1, t2⟩ := Mid.turn r st su few hm md
    exact hs m H _ _ (List.mem_of_getElem? hm) md.1 (md.2.elim fun _ z => ⟨_, z.1⟩) t1 t2
  · obtain ⟨r1, ys, e, al⟩ := md
    rw [List.length_map, List.take_length] at al
    exact hd H ys r1 e al
/-- .. xs a tuple -/
theorem lcT {K : PySem.W.Frag} {a : Addr} {xs : List V} (ms : List α) (gv : α → V) (p : α → Bool) (Φ : α → V → Hp → Prop) (hx : xs = ms.map gv) (r : Rg R D H1) (sq : ∀ H, R H1 H → SqT K H a xs) (st : ∀ m y H H', R H1 H → R H H' → Φ m y H → Φ m y H') (su : ∀ m y H o, R H1 H → (∃ ys, H D = some (.lst ys)) → Φ m y H → Φ m y (upd H D o)) (few : ms.length < 1000000)
    (hs : ∀ m H (Ok : V → Hp → Prop) (No : Hp → Prop), m ∈ ms → R H1 H → (∃ ys, H D = some (.lst ys)) → (p m = true → ∀ y H4, R H H4 → Φ m y H4 → Ok y H4) → (p m = false → ∀ H4, R H H4 → No H4) → g (gv m) (wipe σ vs) H fun σ2 H2 => wipe σ2 vs = wipe σ vs ∧ tt σ2 H2 fun b H3 => if b = true then te σ2 H3 Ok else No H3)
    (hd : ∀ H ys, R H1 H → H D = some (.lst ys) → Al (fun m y => Φ m y H) (ms.filter p) ys → Qd H) :
    ∃ W : Nat → Nat → Hp → Prop, (∃ m, W 0 m (upd H1 D (.lst []))) ∧ ∀ i m H, W i m H →
      ((Itt K a).stop i H ∧ Qd H) ∨ ((Itt K a).go i H ∧ ∃ Nx : Hp → Prop, (∀ H', Nx H' → ∃ m', m' < m ∧ W (i + 1) m' H') ∧ ∀ x H', (Itt K a).yld i H x H' → g x (wipe σ vs) H' fun σ2 H2 => wipe σ2 vs = wipe σ vs ∧ tt σ2 H2 fun b H3 =>
        if b = true then te σ2 H3 fun y H4 => ∃ acc, H4 D = some (.lst acc) ∧ acc.length < sizeLine ∧ Nx (upd H4 D (.lst (acc ++ [y]))) else Nx H3) := by
  subst hx
  refine lc_tup (xs := ms.map gv) (Mid R p Φ ms D H1) (Mid.ini r) (fun i H _ h => sq H h.1) (fun i x H hx md => ?_) (fun H md => ?_)
  · rw [List.getElem?_map] at hx
    obtain ⟨m, hm, rfl⟩ := Option.map_eq_some_iff.mp hx
    obtain ⟨t1, t2⟩ := Mid.turn r st su few hm md
    exact hs m H _ _ (List.mem_of_getElem? hm) md.1 (md.2.elim fun _ z => ⟨_, z.1⟩) t1 t2
  · obtain ⟨r1, ys, e, al⟩ := md
    rw [List.length_map, List.take_length] at al
    exact hd H ys r1 e al
/-- .. range(n) -/
theorem lcR {n : Nat} (p : Nat → Bool) (Φ : Nat → V → Hp → Prop) (r : Rg R D H1) (st : ∀ m y H H', R H1 H → R H H' → Φ m y H → Φ m y H') (su : ∀ m y H o, R H1 H → (∃ ys, H D = some (.lst ys)) → Φ m y H → Φ m y (upd H D o)) (few : n < 1000000)
    (hs : ∀ (m : Nat) H (Ok : V → Hp → Prop) (No : Hp → Prop), m < n → R H1 H → (∃ ys, H D = some (.lst ys)) → (p m = true → ∀ y H4, R H H4 → Φ m y H4 → Ok y H4) → (p m = false → ∀ H4, R H H4 → No H4) → g (.int (m : Int)) (wipe σ vs) H fun σ2 H2 => wipe σ2 vs = wipe σ vs ∧ tt σ2 H2 fun b H3 => if b = true then te σ2 H3 Ok else No H3)
    (hd : ∀ H ys, R H1 H → H D = some (.lst ys) → Al (fun m y => Φ m y H) ((List.range n).filter p) ys → Qd H) :
    ∃ W : Nat → Nat → Hp → Prop, (∃ m, W 0 m (upd H1 D (.lst []))) ∧ ∀ i m H, W i m H →
      ((Itr 0 n).stop i H ∧ Qd H) ∨ ((Itr 0 n).go i H ∧ ∃ Nx : Hp → Prop, (∀ H', Nx H' → ∃ m', m' < m ∧ W (i + 1) m' H') ∧ ∀ x H', (Itr 0 n).yld i H x H' → g x (wipe σ vs) H' fun σ2 H2 => wipe σ2 vs = wipe σ vs ∧ tt σ2 H2 fun b H3 =>
        if b = true then te σ2 H3 fun y H4 => ∃ acc, H4 D = some (.lst acc) ∧ acc.length < sizeLine ∧ Nx (upd H4 D (.lst (acc ++ [y]))) else Nx H3) := by
  refine lc_range (lo := 0) (n := n) (Mid R p Φ (List.range n) D H1) (Mid.ini r) (fun i H hi md => ?_) (fun H md => ?_)
  · have hm : (List.range n)[i]? = some i := by rw [List.getElem?_range hi]
    obtain ⟨t1, t2⟩ := Mid.turn r st su (by rw [List.length_range]; exact few) hm md
    rw [Int.zero_add]
    exact hs i H _ _ hi md.1 (md.2.elim fun _ z => ⟨_, z.1⟩) t1 t2
  · obtain ⟨r1, ys, e, al⟩ := md
    rw [List.take_of_length_le (by rw [List.length_range]; exact Nat.le_refl _)] at al
    exact hd H ys r1 e al
end
/-- for k in range(n) -/
theorem for_rgN {n : Nat} {g : TG} {tb : TS} {D : Ends} {σ : L2.St} {H : Hp} (Pv : Nat → L2.St → Hp → Prop) (h0 : Pv 0 σ H)
    (hs : ∀ (i : Nat) σ H, i < n → Pv i σ H → g (.int (i : Int)) σ H fun σ2 H2 => tb { D with nx := Pv (i + 1), ct := Pv (i + 1), bk := D.nx } σ2 H2) (hd : ∀ σ H, Pv n σ H → D.nx σ H) :
    ∃ W : Nat → Nat → L2.St → Hp → Prop, (∃ m, W 0 m σ H) ∧ ∀ i m σ H, W i m σ H →
      ((Itr 0 n).stop i H ∧ D.nx σ H) ∨ ((Itr 0 n).go i H ∧ ∃ N : L2.St → Hp → Prop, (∀ σ' H', N σ' H' → ∃ m', m' < m ∧ W (i + 1) m' σ' H') ∧ ∀ x H', (Itr 0 n).yld i H x H' → g x σ H' fun σ2 H2 => tb { D with nx := N, ct := N, bk := D.nx } σ2 H2) :=
  for_range (lo := 0) (n := n) Pv h0 (fun i σ H hi p => by rw [Int.zero_add]; exact hs i σ H hi p) hd
end SQ
set_option Elab.async false
set_option linter.all false
set_option maxRecDepth 100000
set_option maxHeartbeats 4000000
/-! own methods, properties, the making of a space -/
namespace SQ
open PySem PySem.Spec PyProof.Rows L2
/-- a method -/
structure MCal (P : Program) (w : World) (K : PySem.W.Frag) (mg : Str → Option Value) (base : Heap) (C : Addr) (k : Nat) (x : Str) (ps : List Str) (sp : Sp) : Prop where
  ex : ∃ (f : Addr) (fd : FuncData), FnOk P w K mg base CX0 k f fd ps sp ∧ Meth K C x f ∧ Binds K fd ps []
section
variable {X : Cx} {C : Addr} {e o : Expr} {es : List Expr} {ta : TE} {t : TA} {x g m : Str} {k : Nat} {ps : List Str} {sp : Sp} {p pos apos : Pos}
theorem pe_ownM {pl : Sem Bool} (M : MCal X.prog X.w X.K X.mg X.base C k m ps sp) (c : Cls X.K C) (hr : Room k X.A) (ho : PE X o ta) (ha : PA X (e :: es) t) (h1 : starEach (e :: es) X.env = (false, eval e X.env) :: starEach es X.env := by rfl) (h2 : (backTo pos (starEach es X.env)).any (·.1) = false := by rfl)
    (h3 : eval (.Call (.Attribute o m apos) (e :: es) [] pos) X.env = (do
      let ov ← eval o X.env
      standAt apos.atName
      let (f, first) ← holding [ov] (getMethod ov m pl)
      callWith pos f first (backTo pos (starEach (e :: es) X.env)) (backToKw pos (keywordEach [] X.env))) := by rfl) : PE X (.Call (.Attribute o m apos) (e :: es) [] pos) (tMeth C m sp [] E0 ta t) := by
  obtain ⟨f, fd, q1, q2, q3⟩ := M.ex
  exact pe_meth ho c q2 q1 hr q3 .nil pass0 ha h1 h2 h3
end
theorem noF {x : Str} {m : Nat} {b : Bool} (h1 : (x == ("_modes" : Str)) = false := by decide +kernel) (h2 : (x == ("_watched" : Str)) = false := by decide +kernel) (h3 : (x == ("_ends" : Str)) = false := by decide +kernel) (h4 : (x == ("_size" : Str)) = false := by decide +kernel) (h5 : (x == ("_same" : Str)) = false := by decide +kernel) : (spF m b).lookup x = none :=
  (lkP h1).trans ((lkP h2).trans ((lkP h3).trans ((lkP h4).trans ((lkP h5).trans rfl))))
theorem ty_tup {K : PySem.W.Frag} {H : Hp} {a : Addr} {xs : List V} (h : SqT K H a xs) : TyX K H (.ref a) (.type "tuple") := by
  rcases h with (h | ⟨o, h⟩) | ⟨o, its, n, h, c, _⟩
  · exact .base (.tup h)
  · exact .fTuple h
  · exact .kTuple h c
end SQ
namespace SQ
open PySem PySem.Spec PyProof.Rows L2
theorem int_dec {n m : Nat} : decide (V.int (n : Int) = V.int (m : Int)) = decide (n = m) := decide_eq_decide.mpr ⟨fun e => Int.ofNat.inj (V.int.inj e), fun e => by rw [e]⟩
/-! ### data of pairs -/
def reprB (b : Bool) : Str := if b then "True" else "False"
theorem call_repr_bl {X : Cx} : CallR X (.builtin "repr") (fun xs H Q => ∃ b, xs = [.bl b] ∧ Q (.str (reprB b)) H) := by
  intro pins s σ H xs us Q I r h
  obtain ⟨b, rfl, q⟩ := h
  obtain ⟨u, rfl, t⟩ := vals1 r
  cases t
  exact PySem.P.repr_of_bool ⟨.str _, H, I.tok _, ⟨_, rfl⟩, q⟩
end SQ
namespace SQ
open PySem PySem.Spec PyProof.Rows L2
/-- a list is changed: tuples stay -/
theorem sqT_set {K : PySem.W.Frag} {H : Hp} {D t : Addr} {o : HO} {xs ys : List V} (e : H D = some (.lst ys)) (h : SqT K H t xs) : SqT K (upd H D o) t xs := by
  have n : ∀ {u : HO}, H t = some u → (∀ zs, u ≠ .lst zs) → t ≠ D := fun h1 h2 z => by
    rw [z, e] at h1
    exact h2 _ (Option.some.inj h1).symm
  rcases h with (h | ⟨o', h⟩) | h
  · exact .inl (.inl (by rw [upd_ne (n h (by intro zs q; cases q))]; exact h))
  · exact .inl (.inr ⟨o', by rw [upd_ne (n h (by intro zs q; cases q))]; exact h⟩)
  · exact .inr h
theorem Prs.set {K : PySem.W.Frag} {H : Hp} {D : Addr} {o : HO} {ys : List V} {ks : List (Addr × Pr)} (g : Prs K H ks) (e : H D = some (.lst ys)) : Prs K (upd H D o) ks := fun q hq => sqT_set e (g q hq)
theorem Same.none {H H' : Hp} {l : Addr} (s : Same H H') (h : H' l = none) : H l = none := by
  cases e : H l with
  | none => rfl
  | some o =>
    rw [s _ _ e] at h
    cases h
end SQ
set_option Elab.async false
set_option linter.all false
set_option maxRecDepth 100000
set_option maxHeartbeats 4000000
/-! contexts judged: pure, and promises -/
namespace FS
open PySem PySem.Spec PyProof.Rows L2
def relB (N : Nat) (d : Dat) : Bool := intB d 0 ((N : Int) - 1)
def tblB (N : Nat) : Dat → Bool
  | .tup ds => decide (ds.length = N) && ds.all (relB N)
  | _ => false
def meanB (N : Nat) (k : Bool) (d : Dat) : Bool := if k then tblB N d else relB N d
def meansB (N : Nat) : List Bool → List Dat → Bool
  | [], [] => true
  | k :: ks, d :: ds => meanB N k d && meansB N ks ds
  | _, _ => false
/-- the kinds by the names -/
abbrev KTb := List (Str × List Bool)
def ctxB (kt : KTb) (N : Nat) : Dat → Bool
  | .tup [.str z, .tup ds] => match kt.lookup z with
    | some ks => meansB N ks ds
    | none => false
  | _ => false
theorem means_len {N : Nat} : ∀ (ks : List Bool) (ds : List Dat), ks.length ≠ ds.length → meansB N ks ds = false
  | [], [], h => absurd rfl h
  | [], _ :: _, _ => rfl
  | _ :: _, [], _ => rfl
  | k :: ks, d :: ds, h => by
    show (_ && meansB N ks ds) = false
    rw [means_len ks ds (fun e => h (by rw [List.length_cons, List.length_cons, e])), Bool.and_false]
/-- no wrap among the kinds -/
theorem means_plain {N : Nat} : ∀ (ks : List Bool) (ds : List Dat), ks.length = ds.length → ks.all (! ·) = true → meansB N ks ds = ds.all (relB N)
  | [], [], _, _ => rfl
  | k :: ks, d :: ds, h, a => by
    rw [List.all_cons] at a
    obtain ⟨a1, a2⟩ := Bool.and_eq_true_iff.mp a
    have ek : k = false := by simpa using a1
    show (meanB N k d && meansB N ks ds) = _
    rw [means_plain ks ds (Nat.succ.inj h) a2, ek]
    rfl
/-- the ones of a kind -/
def ofKind (k : Bool) : List Bool → List Dat → List Dat
  | b :: bs, d :: ds => if b = k then d :: ofKind k bs ds else ofKind k bs ds
  | _, _ => []
theorem means_mixed {N : Nat} : ∀ (ks : List Bool) (ds : List Dat), ks.length = ds.length → meansB N ks ds = ((ofKind false ks ds).all (relB N) && (ofKind true ks ds).all (tblB N))
  | [], [], _ => rfl
  | k :: ks, d :: ds, h => by
    show (meanB N k d && meansB N ks ds) = _
    rw [means_mixed ks ds (Nat.succ.inj h)]
    cases k with
    | true =>
      show (tblB N d && (_ && _)) = ((ofKind false ks ds).all (relB N) && (d :: ofKind true ks ds).all (tblB N))
      rw [List.all_cons]
      cases tblB N d <;> cases (ofKind false ks ds).all (relB N) <;> rfl
    | false =>
      show (relB N d && (_ && _)) = ((d :: ofKind false ks ds).all (relB N) && (ofKind true ks ds).all (tblB N))
      rw [List.all_cons, Bool.and_assoc]
/-- rows as a table of kinds -/
def ktOf (us : List RowU) : KTb := us.map fun u => (u.1, u.2.1.map (·.2))
def spWord : Sp := fun vs H Q _ => ∃ z : Str, vs = [.str z] ∧ wordB z = true ∧ ∀ H', Same H H' → Q .non H'
def OptW (v : V) : Prop := v = .non ∨ ∃ z : Str, v = .str z ∧ wordB z = true
def wdB (v : V) : Bool := decide (v ≠ .non)
def spOptW : Sp := fun vs H Q _ => ∃ v, vs = [v] ∧ OptW v ∧ ∀ H', Same H H' → Q .non H'
def spSpaceOf (K : PySem.W.Frag) (CP C CS : Addr) : Sp := fun vs H Q _ => ∃ (a : Addr) (m : Nat) (us : List RowU) (xs : List V) (w : V), vs = [.ref a, w] ∧ PgX K CP C H a (m : Int) us xs ∧ OptW w ∧ ∀ H' p, Same H H' → SQ.SpAt CS H' p m (wdB w) → Q (.ref p) H'
def spKindsR (K : PySem.W.Frag) (CP C : Addr) : Sp := fun vs H Q _ => ∃ (a : Addr) (m : Int) (us : List RowU) (xs : List V), vs = [.ref a] ∧ PgX K CP C H a m us xs ∧ (us.map (·.1)).Nodup ∧ ∀ H' q kvs, Same H H' → H' q = some (.dK kvs) → KV K H' kvs us → Q (.ref q) H'
/-- all of a tuple or a list of values -/
def spBelowA (K : PySem.W.Frag) : Sp := fun vs H Q _ => ∃ (D p : Addr) (xs : List V) (ds : List Dat) (N : Nat), vs = [.ref p, .int (N : Int)] ∧ (SqT K H p xs ∨ H p = some (.lst xs)) ∧ AtAll K H D xs ds ∧ xs.length ≤ 5000 ∧ ∀ H', Same H H' → Q (.bl (ds.all (relB N))) H'
def szN (m : Nat) (b : Bool) : Nat := 2 ^ (m * SQ.en m b)
def spIsTblA (CS : Addr) (K : PySem.W.Frag) : Sp := fun vs H Q _ => ∃ (D p : Addr) (m : Nat) (b : Bool) (v : V) (d : Dat), vs = [.ref p, v] ∧ SQ.SpAt CS H p m b ∧ At K H D v d ∧ d.wide ≤ 5000 ∧ ∀ H', Same H H' → Q (.bl (tblB (szN m b) d)) H'
def spFormC (CS : Addr) (K : PySem.W.Frag) : Sp := fun vs H Q _ => ∃ (D q p : Addr) (kvs : List (Key × V)) (us : List RowU) (m : Nat) (b : Bool) (v : V) (d : Dat), vs = [.ref q, .ref p, v] ∧ H q = some (.dK kvs) ∧ KV K H kvs us ∧ (us.map (·.1)).Nodup ∧ SQ.SpAt CS H p m b ∧ At K H D v d ∧ d.wide ≤ 5000 ∧ ∀ H', Same H H' → Q (.bl (ctxB (ktOf us) (szN m b) d)) H'
def spCtx (K : PySem.W.Frag) (CP C : Addr) : Sp := fun vs H Q _ => ∃ (D a : Addr) (m : Nat) (us : List RowU) (xs : List V) (v w : V) (d : Dat), vs = [.ref a, v, w] ∧ PgX K CP C H a (m : Int) us xs ∧ (us.map (·.1)).Nodup ∧ OptW w ∧ At K H D v d ∧ d.wide ≤ 5000 ∧ ∀ H', Same H H' → Q (.bl (ctxB (ktOf us) (szN m (wdB w)) d)) H'
end FS
set_option Elab.async false
set_option linter.all false
set_option maxRecDepth 100000
set_option maxHeartbeats 4000000
/-! contexts judged: what the program's defs want -/
namespace FS
open PySem PySem.Spec PyProof.Rows L2
def spChkX (K : PySem.W.Frag) (CP C : Addr) : Sp := fun vs H Q _ => ∃ (a : Addr) (m : Int) (us : List RowU) (xs : List V), vs = [.ref a] ∧ PgX K CP C H a m us xs ∧ Q .non H
theorem word_small {z : Str} (h : wordB z = true) : z.length ≤ 1000 := by
  have h1 := of_decide_eq_true (Bool.and_eq_true_iff.mp h).1
  have := h1.2
  omega
/-- Space(.., watched=..) -/
structure SpN (P : Program) (w : World) (K : PySem.W.Frag) (mg : Str → Option Value) (base : Heap) (C : Addr) : Prop where
  c : SQ.SpC K mg C
  ini : ∃ (f : Addr) (fd : FuncData), FnOk P w K mg base CX0 3 f fd ["self", "modes", "watched"] (SQ.spInit C) ∧ Mk K C f ∧ KBn K fd ["self", "modes", "watched"] 2 ["watched"] (fun us ws => us ++ ws) (fun vs zs => vs ++ zs)
theorem pe_mkWN {X : Cx} {C : Addr} {e : Expr} {kws : List Keyword} {t tk : TA} {p pos : Pos} (G : SpN X.prog X.w X.K X.mg X.base C) (hr : Room 4 X.A) (hg : Gl X "Space") (ha : PA X [e] t) (hkw : PK X kws tk) (hall : (backToKw pos (keywordEach kws X.env)).all (·.1.isSome) = true := by rfl) (hks : (backToKw pos (keywordEach kws X.env)).filterMap (·.1) = ([("watched" : Str)] : List Str) := by rfl)
    (he : starEach [e] X.env = (false, eval e X.env) :: starEach [] X.env := by rfl) (hpl : ((backTo pos (starEach [e] X.env)).any (·.1) || (backToKw pos (keywordEach kws X.env)).any (·.1.isNone)) = false := by rfl) :
    PE X (.Call (.Name "Space" p) [e] kws pos) (tMakeK C 1 1 (SQ.spInit C) (fun vs zs => vs ++ zs) E0 t tk) := by
  obtain ⟨f, fd, h1, h2, kb⟩ := G.ini
  exact pe_makeK h2 h1 hr hg G.c.gC kb pass0 ha hkw hall hks (by decide) he hpl
theorem AtAll.zipm {K : PySem.W.Frag} {H : Hp} {D : Addr} : ∀ {vs : List V} {ds : List Dat}, AtAll K H D vs ds → ∀ p ∈ vs.zip ds, At K H D p.1 p.2
  | _, _, .nil, p, h => nomatch h
  | _, _, .cons (v := v) (d := d) h r, p, hp => by
    rw [List.zip_cons_cons] at hp
    rcases List.mem_cons.mp hp with rfl | hp
    · exact h
    · exact AtAll.zipm r p hp
theorem walk_zipT {K : PySem.W.Frag} {a b : Addr} {xs ys : List V} {n : Nat} (hn : n = min xs.length ys.length) : Walk (RZ.ItzT K a b) n (fun H => SqT K H a xs ∧ SqT K H b ys) (YPair (fun i => xs[i]?) (fun i => ys[i]?)) := by
  subst hn
  refine ⟨fun i _ hi q => ?_, fun _ q => ⟨xs, ys, q.1, q.2, by omega⟩, fun i H v H' _ q y => ?_⟩
  · have h1 : i < xs.length := by omega
    have h2 : i < ys.length := by omega
    exact ⟨xs, ys, xs[i], ys[i], q.1, q.2, by simp [h1], by simp [h2]⟩
  · obtain ⟨T, x, z, h1, h2, h3, h4, h5⟩ := y
    exact ⟨T, x, z, h1, h2, h3, h4 xs q.1, h5 ys q.2⟩
theorem ofKind_snoc (k : Bool) : ∀ (bs : List Bool) (ds : List Dat) (b : Bool) (d : Dat), bs.length = ds.length → ofKind k (bs ++ [b]) (ds ++ [d]) = ofKind k bs ds ++ (if b = k then [d] else [])
  | [], [], b, d, _ => by
    show (if b = k then d :: ofKind k [] [] else ofKind k [] []) = _
    split <;> rfl
  | [], _ :: _, _, _, h => by cases h
  | _ :: _, [], _, _, h => by cases h
  | x :: bs, y :: ds, b, d, h => by
    have ih := ofKind_snoc k bs ds b d (Nat.succ.inj h)
    show (if x = k then y :: ofKind k (bs ++ [b]) (ds ++ [d]) else ofKind k (bs ++ [b]) (ds ++ [d])) = (if x = k then y :: ofKind k bs ds else ofKind k bs ds) ++ _
    rw [ih]
    split <;> rfl
theorem ofKind_len (k : Bool) : ∀ (bs : List Bool) (ds : List Dat), (ofKind k bs ds).length ≤ ds.length
  | [], ds => by show 0 ≤ _; omega
  | _ :: _, [] => Nat.le_refl _
  | x :: bs, y :: ds => by
    have ih := ofKind_len k bs ds
    show (if x = k then y :: ofKind k bs ds else ofKind k bs ds).length ≤ ds.length + 1
    split
    · rw [List.length_cons]; omega
    · omega
theorem ofKind_wide (k : Bool) {n : Nat} : ∀ (bs : List Bool) (ds : List Dat), (∀ d ∈ ds, d.wide ≤ n) → ∀ d ∈ ofKind k bs ds, d.wide ≤ n
  | [], ds, _, d, h => nomatch h
  | _ :: _, [], _, d, h => nomatch h
  | x :: bs, y :: ds, hh, d, h => by
    have ih := ofKind_wide k bs ds fun d hd => hh d (List.mem_cons_of_mem _ hd)
    by_cases e : x = k
    · rw [show ofKind k (x :: bs) (y :: ds) = y :: ofKind k bs ds from if_pos e] at h
      rcases List.mem_cons.mp h with rfl | h
      · exact hh _ List.mem_cons_self
      · exact ih d h
    · rw [show ofKind k (x :: bs) (y :: ds) = ofKind k bs ds from if_neg e] at h
      exact ih d h
theorem wides_mem {n : Nat} : ∀ {ds : List Dat}, widesD ds ≤ n → ∀ d ∈ ds, d.wide ≤ n
  | [], _, d, h => nomatch h
  | x :: ds, hh, d, h => by
    have e : widesD (x :: ds) = max x.wide (widesD ds) := by rw [widesD]
    rcases List.mem_cons.mp h with rfl | h
    · omega
    · exact wides_mem (ds := ds) (by omega) d h
theorem wide_tup {n : Nat} {ds : List Dat} (h : (Dat.tup ds).wide ≤ n) : ds.length ≤ n ∧ ∀ d ∈ ds, d.wide ≤ n := by
  have e : (Dat.tup ds).wide = max ds.length (widesD ds) := by rw [Dat.wide]
  exact ⟨by omega, wides_mem (by omega)⟩
theorem ktOf_look (us : List RowU) (z : Str) : (ktOf us).lookup z = ((tbOf us).lookup z).map fun o => o.map (·.2) := by
  induction us with
  | nil => rfl
  | cons u r ih =>
    show List.lookup z ((u.1, u.2.1.map (·.2)) :: ktOf r) = (List.lookup z ((u.1, u.2.1) :: tbOf r)).map _
    simp only [List.lookup]
    cases z == u.1 with
    | true => rfl
    | false => exact ih
theorem kd_is (b k : Bool) : decide (V.str (kd b) = V.str (kd k)) = decide (b = k) := by
  cases b <;> cases k <;> decide +kernel
/-- a comprehension over zip of two tuples -/
theorem relB_case {N : Nat} : ∀ d : Dat, relB N d = (match d with | .int i => decide (0 ≤ i) && decide (i < (N : Int)) | _ => false)
  | .int i => by
    show (decide (0 ≤ i) && decide (i ≤ (N : Int) - 1)) = _
    congr 1
    exact decide_eq_decide.mpr (by omega)
  | .non => rfl
  | .bl _ => rfl
  | .str _ => rfl
  | .tup _ => rfl
  | .oth => rfl
end FS
namespace FS
open PySem PySem.Spec PyProof.Rows L2
def spBelowT (K : PySem.W.Frag) : Sp := fun vs H Q _ => ∃ (D p : Addr) (xs : List V) (ds : List Dat) (N : Nat), vs = [.ref p, .int (N : Int)] ∧ SqT K H p xs ∧ AtAll K H D xs ds ∧ xs.length ≤ 5000 ∧ ∀ H', Same H H' → Q (.bl (ds.all (relB N))) H'
def spBelowL (K : PySem.W.Frag) : Sp := fun vs H Q _ => ∃ (D p : Addr) (xs : List V) (ds : List Dat) (N : Nat), vs = [.ref p, .int (N : Int)] ∧ SqL K H p xs ∧ AtAll K H D xs ds ∧ xs.length ≤ 5000 ∧ ∀ H', Same H H' → Q (.bl (ds.all (relB N))) H'
end FS
set_option Elab.async false
set_option linter.all false
set_option maxRecDepth 100000
set_option maxHeartbeats 4000000
/-! contexts judged: forms, pure and lists by kind -/
namespace FS
open PySem PySem.Spec PyProof.Rows L2
theorem ctxB_not {kt : KTb} {N : Nat} {d : Dat} (h : ∀ z ds, d ≠ .tup [.str z, .tup ds]) : ctxB kt N d = false := by
  unfold ctxB
  split
  · exact absurd rfl (h _ _)
  · rfl
theorem ctxB_at {kt : KTb} {N : Nat} {z : Str} {ds : List Dat} : ctxB kt N (.tup [.str z, .tup ds]) = (match kt.lookup z with | some ks => meansB N ks ds | none => false) := rfl
theorem vne_t {n m : Nat} (e : (!decide (V.int (n : Int) = V.int (m : Int))) = true) : n ≠ m := fun h => by
  subst h
  simp at e
theorem vne_f {n m : Nat} (e : ¬ (!decide (V.int (n : Int) = V.int (m : Int))) = true) : n = m := by
  rw [SQ.int_dec] at e
  simpa using e
abbrev kdV (ks : List Bool) : List V := (ks.map kd).map V.str
theorem kdV_at {ks : List Bool} {i : Nat} {y : V} (h : (kdV ks)[i]? = some y) : ∃ b, ks[i]? = some b ∧ y = .str (kd b) := by
  rw [List.getElem?_map, List.getElem?_map] at h
  obtain ⟨x, hx, rfl⟩ := Option.map_eq_some_iff.mp h
  obtain ⟨b, hb, rfl⟩ := Option.map_eq_some_iff.mp hx
  exact ⟨b, hb, rfl⟩
theorem wrap_any (ks : List Bool) : decide (("wrap" : Str) ∈ ks.map kd) = ks.any id := by
  induction ks with
  | nil => rfl
  | cons b r ih =>
    rw [List.map_cons, List.any_cons, ← ih]
    cases b with
    | true =>
      rw [show kd true = ("wrap" : Str) from rfl]
      simp
    | false =>
      have ne : ¬ ("wrap" : Str) = kd false := by decide +kernel
      simp [ne]
theorem all_plain (ks : List Bool) : ks.all (! ·) = !(ks.any id) := by
  induction ks with
  | nil => rfl
  | cons b r ih =>
    rw [List.all_cons, List.any_cons, ih]
    cases b <;> rfl
section
variable {K : PySem.W.Frag} {H H1 : Hp} {D a b L : Addr} {ms : List V} {ks : List Bool} {es : List Dat} {k : Bool} {g : TG} {tt : TT} {te : TE} {vs : List Nat} {σ : L2.St} {Qd : Hp → Prop}
/-- those of a kind, by zip with the kinds -/
theorem lc_kind (k : Bool) (s1 : SqT K H1 a ms) (s2 : SqT K H1 b (kdV ks)) (r : AtAll K H D ms es) (le : es.length = ks.length) (few : es.length ≤ 5000) (nL : H1 L = none)
    (hs : ∀ (T : Addr) (x : V) (c : Bool) (H2 : Hp) (Ok : V → Hp → Prop) (No : Hp → Prop), H2 T = some (.tup [x, .str (kd c)]) → (c = k → ∀ H3, Same H2 H3 → Ok x H3) → (¬ c = k → ∀ H3, Same H2 H3 → No H3) → g (.ref T) (wipe σ vs) H2 fun σ2 H2 => wipe σ2 vs = wipe σ vs ∧ tt σ2 H2 fun b H3 => if b = true then te σ2 H3 Ok else No H3)
    (hd : ∀ H2 ys, Same H1 H2 → H2 L = some (.lst ys) → AtAll K H D ys (ofKind k ks es) → Qd H2) :
    ∃ W : Nat → Nat → Hp → Prop, (∃ m, W 0 m (upd H1 L (.lst []))) ∧ ∀ i m H, W i m H →
      ((RZ.ItzT K a b).stop i H ∧ Qd H) ∨ ((RZ.ItzT K a b).go i H ∧ ∃ Nx : Hp → Prop, (∀ H', Nx H' → ∃ m', m' < m ∧ W (i + 1) m' H') ∧ ∀ x H', (RZ.ItzT K a b).yld i H x H' → g x (wipe σ vs) H' fun σ2 H2 => wipe σ2 vs = wipe σ vs ∧ tt σ2 H2 fun b H3 =>
        if b = true then te σ2 H3 fun y H4 => ∃ acc, H4 L = some (.lst acc) ∧ acc.length < sizeLine ∧ Nx (upd H4 L (.lst (acc ++ [y]))) else Nx H3) := by
  have lm := r.len
  have lk : (kdV ks).length = ks.length := by rw [List.length_map, List.length_map]
  refine lc_it (walk_zipT (n := ms.length) (by omega)) (fun i H' => Same H1 H' ∧ ∃ ys, H' L = some (.lst ys) ∧ AtAll K H D ys (ofKind k (ks.take i) (es.take i))) ⟨same_upd nL, [], upd_same, .nil⟩ (fun i H' hi h => ⟨Same.sqT h.1 s1, Same.sqT h.1 s2⟩) (fun i v H2 H3 hi h y => ?_) (fun H' h => ?_)
  · obtain ⟨sm, ys, eL, al⟩ := h
    obtain ⟨T, x, y1, rfl, nT, rfl, hx, hy⟩ := y
    obtain ⟨c, hc, rfl⟩ := kdV_at hy
    obtain ⟨d, hd', ad⟩ := r.get hx
    have sT : Same H2 (upd H2 T (.tup [x, .str (kd c)])) := same_upd nT
    have oe := ofKind_snoc k (ks.take i) (es.take i) c d (by rw [List.length_take, List.length_take]; omega)
    rw [← take_more hc, ← take_more hd'] at oe
    refine hs T x c _ _ _ upd_same (fun e H4 s4 => ⟨ys, (sT.trans s4) _ _ eL, ?_, Same.set (sm.trans (sT.trans s4)) nL, ys ++ [x], upd_same, ?_⟩) (fun e H4 s4 => ⟨sm.trans (sT.trans s4), ys, (sT.trans s4) _ _ eL, ?_⟩)
    · have l1 := al.len
      have l2 := ofKind_len k (ks.take i) (es.take i)
      rw [List.length_take] at l2
      rw [sizeLine_eq]
      omega
    · rw [oe, if_pos e]
      exact al.app (.cons ad .nil)
    · rw [oe, if_neg e, List.append_nil]
      exact al
  · obtain ⟨sm, ys, eL, al⟩ := h
    rw [lm, List.take_length, le, List.take_length] at al
    exact hd H' ys sm eL al
end
end FS
set_option Elab.async false
set_option linter.all false
set_option maxRecDepth 100000
set_option maxHeartbeats 4000000
/-! drawn parts -/
namespace FS
open PySem PySem.Spec PyProof.Rows L2
/-- names once: what stands in the table is found -/
theorem look_nd {tb : Tbl} (n : (tb.map (·.1)).Nodup) {x : Str} {o : List (Str × Bool)} (h : (x, o) ∈ tb) : tb.lookup x = some o := by
  induction tb with
  | nil => cases h
  | cons p r ih =>
    obtain ⟨n1, n2⟩ := List.nodup_cons.mp n
    obtain ⟨y, q⟩ := p
    simp only [List.lookup]
    rcases List.mem_cons.mp h with e | h
    · cases e
      rw [show (x == x) = true from beq_self_eq_true x]
    · have ne : x ≠ y := fun z => n1 (List.mem_map.mpr ⟨_, h, z⟩)
      rw [show (x == y) = false by simpa using ne]
      exact ih n2 h
/-- v is a drawn part -/
structure GotL (K : PySem.W.Frag) (H : Hp) (m : Int) (tb : Tbl) (own : List (Str × Bool)) (d c : Nat) (b : Bool) (v : V) (t : Tm) : Prop where
  dp : Dp K H v t.data
  good : GF m tb own t
  kind : t.isW = b
  deep : t.deep ≤ d
  few : t.count ≤ c
section
variable {K : PySem.W.Frag} {H H' : Hp} {m : Int} {tb : Tbl} {own : List (Str × Bool)} {d c d' c' : Nat} {b : Bool} {v : V} {t : Tm}
theorem GotL.tk (g : GotL K H m tb own d c b v t) (e : TK H H') : GotL K H' m tb own d c b v t := ⟨Dp.tk e t.noL g.dp, g.good, g.kind, g.deep, g.few⟩
theorem GotL.up (g : GotL K H m tb own d c b v t) (h1 : d ≤ d') (h2 : c ≤ c') : GotL K H m tb own d' c' b v t := ⟨g.dp, g.good, g.kind, Nat.le_trans g.deep h1, Nat.le_trans g.few h2⟩
theorem gl_leaf {p : Addr} {z : Str} {k : Bool} (e : SqT K H p [V.str (if k then "own" else "run"), V.str z]) (mz : (z, k) ∈ own) : ∃ t, GotL K H m tb own 1 1 k (.ref p) t := by
  cases k with
  | true => exact ⟨.mk (.own z) [], .tup e (.cons (.str _) (.cons (.str _) .nil)), .mk (by show (decide ((z, true) ∈ own) && decide (([] : List Tm).length = 0)) = true; rw [decide_eq_true mz]; rfl) rfl (fun t h => nomatch h) rfl, rfl, Nat.le_refl _, Nat.le_refl _⟩
  | false => exact ⟨.mk (.run z) [], .tup e (.cons (.str _) (.cons (.str _) .nil)), .mk (by show (decide ((z, false) ∈ own) && decide (([] : List Tm).length = 0)) = true; rw [decide_eq_true mz]; rfl) rfl (fun t h => nomatch h) rfl, rfl, Nat.le_refl _, Nat.le_refl _⟩
/-- the parts that are given -/
def GivesL (m : Int) (tb : Tbl) (own : List (Str × Bool)) (d c : Nat) (ks : List Bool) (us : List Tm) : Prop := (∀ u ∈ us, GF m tb own u ∧ u.deep ≤ d ∧ u.count ≤ c) ∧ us.map Tm.isW = ks
theorem gl_call {p : Addr} {x : Str} {vs : List V} {us : List Tm} {ks : List Bool} (b : Bool) (wd : wordB x = true) (e : SqT K H p (V.str (if b then "with" else "call") :: V.str x :: vs)) (r : DpAll K H vs (datas us)) (g : GivesL m tb own d c ks us) (n : Nat) (k3 : ks.length ≤ n) (ft : (tb.lookup x).map (fun o => o.map (·.2)) = some (if b then ks ++ [false] else ks)) : ∃ t, GotL K H m tb own (d + 1) (1 + n * c) b (.ref p) t := by
  obtain ⟨g1, g2⟩ := g
  obtain ⟨d1, d2⟩ := gives_deep fun u hu => (g1 u hu).2
  have l : us.length ≤ n := by rw [← g2, List.length_map] at k3; exact k3
  have q : 1 + counts us ≤ 1 + n * c := by
    have := Nat.mul_le_mul_right c l
    omega
  cases b with
  | true => exact ⟨.mk (.wth x) us, .tup e (.cons (.str _) (.cons (.str _) r)), .mk wd rfl (fun u hu => (g1 u hu).1) (by rw [g2]; exact decide_eq_true ft), rfl, Nat.succ_le_succ d1, by rw [count_eq]; exact q⟩
  | false => exact ⟨.mk (.call x) us, .tup e (.cons (.str _) (.cons (.str _) r)), .mk wd rfl (fun u hu => (g1 u hu).1) (by rw [g2]; exact decide_eq_true ft), rfl, Nat.succ_le_succ d1, by rw [count_eq]; exact q⟩
theorem gl_seq {p : Addr} {vs : List V} {us : List Tm} (b : Bool) (hb : b = true → 0 < us.length) (e : SqT K H p (V.str (if b then "or" else "seq") :: vs)) (r : DpAll K H vs (datas us)) (g : ∀ u ∈ us, GF m tb own u ∧ u.isW = false ∧ u.deep ≤ d ∧ u.count ≤ c) (n : Nat) (k3 : us.length ≤ n) : ∃ t, GotL K H m tb own (d + 1) (1 + n * c) false (.ref p) t := by
  obtain ⟨d1, d2⟩ := gives_deep fun u hu => (g u hu).2.2
  have q : 1 + counts us ≤ 1 + n * c := by
    have := Nat.mul_le_mul_right c k3
    omega
  have al : (us.map Tm.isW).all (fun z => !z) = true := by
    rw [List.all_map]
    exact List.all_eq_true.mpr fun u hu => by
      show (!u.isW) = true
      rw [(g u hu).2.1]
      rfl
  cases b with
  | true => exact ⟨.mk .alt us, .tup e (.cons (.str _) r), .mk (decide_eq_true (hb rfl)) al (fun u hu => (g u hu).1) rfl, rfl, Nat.succ_le_succ d1, by rw [count_eq]; exact q⟩
  | false => exact ⟨.mk .seq us, .tup e (.cons (.str _) r), .mk rfl al (fun u hu => (g u hu).1) rfl, rfl, Nat.succ_le_succ d1, by rw [count_eq]; exact q⟩
theorem gl_wrap {p : Addr} {v1 v2 : V} {t1 t2 : Tm} {d2 c2 : Nat} (e : SqT K H p [V.str "wrap", v1, v2]) (g1 : GotL K H m tb own d c true v1 t1) (g2 : GotL K H m tb own d2 c2 false v2 t2) : ∃ t, GotL K H m tb own (max d d2 + 1) (1 + c + c2) false (.ref p) t := by
  refine ⟨.mk .wrp [t1, t2], .tup e (.cons (.str _) (.cons g1.dp (.cons g2.dp .nil))), .mk rfl ?_ ?_ rfl, rfl, ?_, ?_⟩
  · show decide ([t1.isW, t2.isW] = [true, false]) = true
    rw [g1.kind, g2.kind]
    rfl
  · intro u hu
    rcases List.mem_cons.mp hu with rfl | hu
    · exact g1.good
    · rw [List.mem_singleton.mp hu]
      exact g2.good
  · show max t1.deep (max t2.deep 0) + 1 ≤ _
    have h1 := g1.deep
    have h2 := g2.deep
    omega
  · have h1 := g1.few
    have h2 := g2.few
    rw [count_eq]
    show 1 + (t1.all ++ (t2.all ++ [])).length ≤ _
    rw [List.append_nil, List.length_append]
    show 1 + (t1.count + t2.count) ≤ _
    omega
theorem gl_deed {k : Nat} {p : Addr} {z : Str} {es : List (Option Nat)} {q : V} (k3 : k ≤ 3) (k1 : 1 ≤ k) (wz : wordB z = true) (l : es.length = k) (h : ∀ e ∈ es, entK k e = true) (s : SqT K H p [V.str "do", V.str z, q]) (dq : Dp K H q (.tuple (es.map entryD))) : ∃ t, GotL K H (k : Int) tb own 1 1 false (.ref p) t := by
  refine ⟨.mk (.deed z es) [], .tup s (.cons (.str _) (.cons (.str _) (.cons dq .nil))), .mk ?_ rfl (fun t h => nomatch h) (deed_fit l h), rfl, Nat.le_refl _, Nat.le_refl _⟩
  show (wordB z && decide (1 ≤ es.length ∧ es.length ≤ 3) && es.all entB && decide (([] : List Tm).length = 0)) = true
  rw [wz, decide_eq_true (by omega : 1 ≤ es.length ∧ es.length ≤ 3), List.all_eq_true.mpr fun e he => entK_B k3 (h e he)]
  rfl
end
def spNeverL : Sp := fun _ _ _ _ => False
theorem GotL.ne_non {K : PySem.W.Frag} {H : Hp} {m : Int} {tb : Tbl} {own : List (Str × Bool)} {d c : Nat} {b : Bool} {v : V} {t : Tm} (g : GotL K H m tb own d c b v t) : v ≠ .non := fun z => by
  obtain ⟨h, ks⟩ := t
  obtain ⟨a, rs, kv, e, _⟩ := tm_open g.dp
  rw [z] at e
  cases e
theorem ents_of {k : Nat} : ∀ ys : List V, (∀ (i : Nat) (y : V), ys[i]? = some y → ∃ e, entK k e = true ∧ y = entryV e) → ∃ es : List (Option Nat), es.length = ys.length ∧ (∀ e ∈ es, entK k e = true) ∧ ys = es.map entryV
  | [], _ => ⟨[], rfl, (fun _ h => nomatch h), rfl⟩
  | y :: r, h => by
    obtain ⟨e, h1, rfl⟩ := h 0 y rfl
    obtain ⟨es, h2, h3, h4⟩ := ents_of r fun i z hz => h (i + 1) z hz
    refine ⟨e :: es, by rw [List.length_cons, h2]; rfl, fun z hz => ?_, by rw [h4]; rfl⟩
    rcases List.mem_cons.mp hz with rfl | hz
    · exact h1
    · exact h3 z hz
theorem ents_dp {K : PySem.W.Frag} {H : Hp} : ∀ es : List (Option Nat), DpAll K H (es.map entryV) (es.map entryD)
  | [] => .nil
  | none :: r => .cons .non (ents_dp r)
  | some _ :: r => .cons (.int _) (ents_dp r)
/-- [name for name, kind in own if kind == k] -/
theorem names_lc {K : PySem.W.Frag} {ga : Addr} {vs : List V} {own : List (Str × Bool)} {k : Bool} {tag : Str} {σ : L2.St} {H : Hp} {Q : VK} {v i j : Nat} (hv : σ[v]? = some (some (.ref ga))) (hg : H ga = some (.lst vs)) (dp : DpAll K H vs (own.map parD)) (few : own.length ≤ 100) (ht : tag = kd k)
    (h1 : ∀ z1 z2, (((wipe σ [i, j]).set i (some z1)).set j (some z2))[j]? = some (some z2)) (h2 : ∀ z1 z2, (((wipe σ [i, j]).set i (some z1)).set j (some z2))[i]? = some (some z1)) (h3 : ∀ z1 z2, wipe (((wipe σ [i, j]).set i (some z1)).set j (some z2)) [i, j] = wipe σ [i, j])
    (q : ∀ H' p, Same H H' → H p = none → H' p = some (.lst ((namesOf own k).map V.str)) → Q (.ref p) H') :
    tLc (iList K (tVar v)) (gTup K 2 (gCons (gName i) (gCons (gName j) gNil))) (tTest (tOp rEq (tVar j) (tC (.str tag)))) (tVar i) [i, j] σ H Q := by
  have lv : vs.length = own.length := by rw [DpAll.len dp, List.length_map]
  subst ht
  refine ⟨_, hv, ga, rfl, ⟨_, .inl (.inl hg)⟩, fun D nD => ?_⟩
  refine lcf walk_list (kept_same nD) (fun a => (own[a]?).bind fun p => if p.2 == k then some (.str p.1) else none) (by omega) (fun H' s => .inl (.inl (s _ _ hg))) (fun a x H1 H' N1 N0 hi s hy y1 y0 => ?_) (fun H1 s e => ?_)
  · obtain ⟨rfl, hx⟩ := hy
    obtain ⟨d, hd, dx⟩ := DpAll.get (DpAll.tk (.of s) (pars_noL own) dp) hx
    rw [List.getElem?_map] at hd
    obtain ⟨p, hp, rfl⟩ := Option.map_eq_some_iff.mp hd
    obtain ⟨b, ys, rfl, sb, rb⟩ := Dp.tup_inv (show Dp K H' x (.tuple [.str p.1, .str (kd p.2)]) from dx)
    cases rb with
    | cons z1 rb => cases rb with
      | cons z2 rb =>
      cases rb
      cases Dp.str_inv z1
      cases Dp.str_inv z2
      refine ⟨b, _, rfl, sb, rfl, _, _, rfl, _, _, rfl, rfl, h3 _ _, _, h1 _ _, rfl, _, rfl, ?_⟩
      have ek : decide (V.str (kd p.2) = V.str (kd k)) = (p.2 == k) := by
        cases p.2 <;> cases k <;> decide +kernel
      rw [ek]
      have ef : ((own[a]?).bind fun p => if p.2 == k then some (V.str p.1) else none) = if p.2 == k then some (V.str p.1) else none := by rw [hp]; rfl
      rw [ef] at y1 y0
      cases e : (p.2 == k) with
      | true =>
        rw [e] at y1
        exact iteT ⟨_, h2 _ _, y1 _ _ (.refl _) rfl⟩
      | false =>
        rw [e] at y0
        exact iteF (y0 _ (.refl _) rfl)
  · refine q H1 D s nD ?_
    rw [e, lv, range_fm own (fun p => if p.2 == k then some (V.str p.1) else none)]
    refine congrArg (fun l => some (HO.lst l)) ?_
    unfold namesOf
    clear e s dp lv few hg hv q
    induction own with
    | nil => rfl
    | cons p r ih =>
      rw [List.filterMap_cons, List.filter_cons]
      cases ek : (p.2 == k) with
      | true =>
        rw [if_pos rfl]
        simp only [if_true, List.map_cons]
        rw [ih]
      | false =>
        rw [if_neg Bool.false_ne_true]
        simp only [Bool.false_eq_true, if_false]
        exact ih
theorem gives_of {K : PySem.W.Frag} {H : Hp} {m : Int} {tb : Tbl} {own : List (Str × Bool)} {d c : Nat} : ∀ (ys : List V) (ks : List Bool), ys.length = ks.length → (∀ (i : Nat) (y : V), ys[i]? = some y → ∃ k t, ks[i]? = some k ∧ GotL K H m tb own d c k y t) → ∃ us, DpAll K H ys (datas us) ∧ GivesL m tb own d c ks us
  | [], [], _, _ => ⟨[], .nil, (fun _ h => nomatch h), rfl⟩
  | y :: ys, k :: ks, l, h => by
    obtain ⟨k', t, e, g⟩ := h 0 y rfl
    cases e
    obtain ⟨us, h1, h2, h3⟩ := gives_of ys ks (Nat.succ.inj l) fun i z hz => h (i + 1) z hz
    refine ⟨t :: us, .cons g.dp h1, fun u hu => ?_, by rw [List.map_cons, g.kind, h3]⟩
    rcases List.mem_cons.mp hu with rfl | hu
    · exact ⟨g.good, g.deep, g.few⟩
    · exact h2 u hu
theorem names_seq {K : PySem.W.Frag} {ga : Addr} {vs : List V} {own : List (Str × Bool)} {k : Bool} {tag : Str} {σ : L2.St} {H : Hp} {D : Ends} {r : TS} {a v i j : Nat}
    (h1 : ∀ z1 z2, (((wipe σ [i, j]).set i (some z1)).set j (some z2))[j]? = some (some z2)) (h2 : ∀ z1 z2, (((wipe σ [i, j]).set i (some z1)).set j (some z2))[i]? = some (some z1)) (h3 : ∀ z1 z2, wipe (((wipe σ [i, j]).set i (some z1)).set j (some z2)) [i, j] = wipe σ [i, j]) (hv : σ[v]? = some (some (.ref ga))) (hg : H ga = some (.lst vs)) (dp : DpAll K H vs (own.map parD)) (few : own.length ≤ 100) (ht : tag = kd k)
    (q : ∀ H' p, Same H H' → H p = none → H' p = some (.lst ((namesOf own k).map V.str)) → r D (σ.set a (some (.ref p))) H') :
    tSeq (tAsg (tLc (iList K (tVar v)) (gTup K 2 (gCons (gName i) (gCons (gName j) gNil))) (tTest (tOp rEq (tVar j) (tC (.str tag)))) (tVar i) [i, j]) (gName a)) r D σ H :=
  names_lc (Q := fun x H1 => r D (σ.set a (some x)) H1) hv hg dp few ht h1 h2 h3 q
end FS
set_option Elab.async false
set_option linter.all false
set_option maxRecDepth 100000
set_option maxHeartbeats 4000000
/-! drawn programs of stages 2 and 3: promises -/
namespace FS
open PySem PySem.Spec PyProof.Rows L2
def dT : Nat → Nat
  | 0 => 1
  | n + 1 => n + 3
def cT : Nat → Nat
  | 0 => 1
  | n + 1 => 3 + 2 * cT n
def cW : Nat → Nat
  | 0 => 1
  | n + 1 => cT n + 1
theorem cT_pos (n : Nat) : 1 ≤ cT n := by
  cases n with
  | zero => exact Nat.le_refl _
  | succ n =>
    show 1 ≤ 3 + 2 * cT n
    omega
theorem dT_le (n : Nat) : dT n ≤ n + 2 := by
  cases n with
  | zero => decide
  | succ n => exact Nat.le_refl _
theorem dT_pos (n : Nat) : 1 ≤ dT n := by
  cases n with
  | zero => decide
  | succ n =>
    show 1 ≤ n + 3
    omega
theorem cW_le (n : Nat) : cW n ≤ cT n := by
  cases n with
  | zero => exact Nat.le_refl _
  | succ n =>
    show cT n + 1 ≤ 3 + 2 * cT n
    omega
/-- the dict from names to kinds -/
inductive HdV (K : PySem.W.Frag) (H : Hp) : List (Key × V) → List (Str × List Bool) → Prop
  | nil : HdV K H [] []
  | cons {v : V} {x : Str} {ks : List Bool} {kvs : List (Key × V)} {hs : List (Str × List Bool)} (h : Dp K H v (kindsD ks)) (r : HdV K H kvs hs) : HdV K H ((Sum.inr x, v) :: kvs) ((x, ks) :: hs)
theorem kindsD_noLs : ∀ ks : List Bool, noLs (ks.map fun b => PyData.str (kd b)) = true
  | [] => rfl
  | _ :: r => kindsD_noLs r
theorem kindsD_noL (ks : List Bool) : noL (kindsD ks) = true := kindsD_noLs ks
section
variable {K : PySem.W.Frag} {H H' : Hp} {kvs : List (Key × V)} {hs : List (Str × List Bool)}
theorem HdV.tk (e : TK H H') (x : HdV K H kvs hs) : HdV K H' kvs hs := by
  induction x with
  | nil => exact .nil
  | cons h _ ih => exact .cons (Dp.tk e (kindsD_noL _) h) ih
theorem HdV.keys (x : HdV K H kvs hs) : kvs.map (·.1) = (hs.map (·.1)).map Sum.inr := by
  induction x with
  | nil => rfl
  | cons _ _ ih =>
    rw [List.map_cons, ih]
    rfl
theorem HdV.get (x : HdV K H kvs hs) (nd : (hs.map (·.1)).Nodup) {z : Str} {ks : List Bool} (h : (z, ks) ∈ hs) : ∃ v, valV kvs (Sum.inr z) = some v ∧ Dp K H v (kindsD ks) := by
  induction x with
  | nil => cases h
  | @cons v y ks' kvs hs h1 _ ih =>
    obtain ⟨n1, n2⟩ := List.nodup_cons.mp nd
    rcases List.mem_cons.mp h with e | h
    · cases e
      exact ⟨v, valV_pos rfl, h1⟩
    · obtain ⟨w, e1, e2⟩ := ih n2 h
      refine ⟨w, ?_, e2⟩
      rw [valV_neg (fun e => n1 (by show y ∈ _; rw [show y = z from Sum.inr.inj e]; exact List.mem_map_of_mem h))]
      exact e1
theorem HdV.len (x : HdV K H kvs hs) : kvs.length = hs.length := by
  induction x with
  | nil => rfl
  | cons _ _ ih => rw [List.length_cons, List.length_cons, ih]
theorem HdV.app {kvs' : List (Key × V)} {hs' : List (Str × List Bool)} (x : HdV K H kvs hs) (y : HdV K H kvs' hs') : HdV K H (kvs ++ kvs') (hs ++ hs') := by
  induction x with
  | nil => exact y
  | cons h _ ih => exact .cons h ih
end
def planL (m : Int) (hd : Addr) : List (Key × V) := [(Sum.inr "modes", .int m), (Sum.inr "heads", .ref hd)]
/-- what the drawers are called with -/
structure AskP (K : PySem.W.Frag) (H : Hp) (D pl oa : Addr) (m : Int) (tb : Tbl) (own : List (Str × Bool)) (hs : List (Str × List Bool)) : Prop where
  die : Die H D
  plan : ∃ hd kvs, H pl = some (.dK (planL m hd)) ∧ H hd = some (.dK kvs) ∧ HdV K H kvs hs ∧ hd ≠ D
  pne : pl ≠ D
  otab : ∃ vs, H oa = some (.lst vs) ∧ DpAll K H vs (own.map parD)
  one : oa ≠ D
  hok : ∀ x ks, (x, ks) ∈ hs → wordB x = true ∧ (tb.lookup x).map (fun o => o.map (·.2)) = some ks ∧ ks.length ≤ 2
  nd : (hs.map (·.1)).Nodup
  ne : hs ≠ []
  few : hs.length ≤ 3
  po : ParOk own
  m1 : 1 ≤ m
  m3 : m ≤ 3
section
variable {K : PySem.W.Frag} {H H' : Hp} {D pl oa : Addr} {m : Int} {tb : Tbl} {own : List (Str × Bool)} {hs : List (Str × List Bool)}
theorem AskP.go (a : AskP K H D pl oa m tb own hs) (g : Go D H H') : AskP K H' D pl oa m tb own hs := by
  obtain ⟨hd, kvs, h1, h2, h3, h4⟩ := a.plan
  obtain ⟨vs, h5, h6⟩ := a.otab
  exact ⟨g.2, ⟨hd, kvs, g.1 _ _ a.pne h1, g.1 _ _ h4 h2, h3.tk (g.tk a.die), h4⟩, a.pne, ⟨vs, g.1 _ _ a.one h5, DpAll.tk (g.tk a.die) (pars_noL _) h6⟩, a.one, a.hok, a.nd, a.ne, a.few, a.po, a.m1, a.m3⟩
theorem AskP.same (a : AskP K H D pl oa m tb own hs) (s : Same H H') : AskP K H' D pl oa m tb own hs := a.go (.of a.die s)
end
def spDeedK (K : PySem.W.Frag) : Sp := fun vs H Q _ => ∃ (D : Addr) (k : Nat), vs = [.ref D, .int (k : Int)] ∧ Die H D ∧ 1 ≤ k ∧ k ≤ 3 ∧ ∀ v H', Go D H H' → (∀ tb own, ∃ t, GotL K H' (k : Int) tb own 1 1 false v t) → Q v H'
def spTermK (K : PySem.W.Frag) (n : Nat) : Sp := fun vs H Q _ => ∃ (D pl oa : Addr) (m : Int) (tb : Tbl) (own : List (Str × Bool)) (hs : List (Str × List Bool)) (z : Int), vs = [.ref D, .ref pl, .ref oa, .int z] ∧ z ≤ n ∧ AskP K H D pl oa m tb own hs ∧ ∀ v H' t, Go D H H' → GotL K H' m tb own (dT n) (cT n) false v t → Q v H'
def spCallK (K : PySem.W.Frag) (n : Nat) : Sp := fun vs H Q _ => ∃ (D pl oa : Addr) (m : Int) (tb : Tbl) (own : List (Str × Bool)) (hs : List (Str × List Bool)) (z : Int), vs = [.ref D, .ref pl, .ref oa, .int z] ∧ z ≤ n ∧ AskP K H D pl oa m tb own hs ∧ ∀ v H' t, Go D H H' → GotL K H' m tb own (dT n) (cT n) false v t → Q v H'
/-- a block, or a wrap, or None where no wrap can be had -/
def spHandK (K : PySem.W.Frag) (n : Nat) : Sp := fun vs H Q _ => ∃ (D pl oa : Addr) (m : Int) (tb : Tbl) (own : List (Str × Bool)) (hs : List (Str × List Bool)) (z : Int) (b : Bool), vs = [.ref D, .ref pl, .ref oa, .int z, .str (kd b)] ∧ z ≤ n ∧ AskP K H D pl oa m tb own hs ∧
  (∀ H', Go D H H' → Q .non H') ∧ ∀ v H' t, Go D H H' → GotL K H' m tb own (n + 1) (cW n) b v t → Q v H'
def spTermQ (K : PySem.W.Frag) : Nat → Sp
  | 0 => spNeverL
  | n + 1 => spTermK K n
def spHandQ (K : PySem.W.Frag) : Nat → Sp
  | 0 => spNeverL
  | n + 1 => spHandK K n
def spCallQ (K : PySem.W.Frag) : Nat → Sp
  | 0 => spNeverL
  | n + 1 => spCallK K (n + 1)
def spHandR (K : PySem.W.Frag) : Nat → Sp
  | 0 => spNeverL
  | n + 1 => spHandK K (n + 1)
end FS
set_option Elab.async false
set_option linter.all false
set_option maxRecDepth 100000
set_option maxHeartbeats 4000000
namespace FS
open PySem PySem.Spec PyProof.Rows L2
section
variable {P : Program} {w : World} {K : PySem.W.Frag} {mg : Str → Option Value} {base : Heap}
abbrev N_law_deed : List Str := ["_law_sack_here", "_law_modes", "_law_table", "_law_mode"]
theorem sc_law_deed : FnScope N_law_deed ["_law_sack_here", "_law_modes"] (defScope s_law_deed) := ⟨rfl, rfl, rfl, by decide +kernel, rfl, by decide +kernel, by decide +kernel⟩
theorem ok_l_deed {f : Addr} {fd : FuncData} (F : Fun K "_law_deed" "_law_deed" s_law_deed f fd) (T : Nm K mg) (Cl_pick : Cal P w K mg base 2 "_law_pick" ["_law_sack_here", "_law_items"] (spPick K)) : FnOk P w K mg base CX0 3 f fd ["_law_sack_here", "_law_modes"] (spDeedK K) := by
  have nd := sc_law_deed.nd
  refine F.ok sc_law_deed (fun vs H Q E h => ?_) (fun cdv A outer s H vs Q E hr h => ?_)
  · obtain ⟨D, k, rfl, d, d1, d3, q⟩ := h
    rfl
  · obtain ⟨D, k, rfl, d, d1, d3, q⟩ := h
    skip
    refine ⟨_, (pss_cons (ps_setLc (i := 2) (own := [("_law_mode", 3)]) (g := gName 3) (tt := tYes) rfl nd rfl rfl (sw_true rfl rfl rfl (by decide +kernel)) (pi_range1 rfl T.b_range (pa_cons (pv 1) pa_nil)) (blkOk_by (own := [("_law_mode", 3)]) (N := N_law_deed) (sc := defScope s_law_deed) (by decide +kernel)) (fun _ _ _ _ _ => (pg_name (i := 3) nd rfl (Or.inl rfl))) (fun _ _ _ _ _ => pts_nil) (fun _ _ _ _ _ => (pe_own Cl_pick (hr.mono (by decide)) (by rfl) (pa_cons (pv 0) (pa_cons (pe_op op_cat (pe_lst (pa_cons pe_non pa_nil)) (pe_op op_rep (pe_listRg rfl (by rfl) T.b_list (prg_1 (by rfl) T.b_range (pv 1))) pe_int)) pa_nil)))))
  (pss_one (ps_ret (pe_tup (pa_cons pe_str (pa_cons (pe_own Cl_pick (hr.mono (by decide)) (by rfl) (pa_cons (pv 0) (pa_cons (pe_lst (pa_cons pe_str (pa_cons pe_str (pa_cons pe_str (pa_cons pe_str pa_nil))))) pa_nil))) (pa_cons (pe_callTy call_tuple_of (by rfl) T.b_tuple (by decide +kernel) (pa_cons (pv 2) pa_nil)) pa_nil))))))), ?_⟩

    refine seq_gen (P := fun σ' H1 => ∃ (L : Addr) (es : List (Option Nat)), σ' = [some (.ref D), some (.int (k : Int)), some (.ref L), none] ∧ Go D H H1 ∧ L ≠ D ∧ H1 L = some (.lst (es.map entryV)) ∧ es.length = k ∧ ∀ e ∈ es, entK k e = true) (fun N0 hN0 => ?_) ?_
    · refine ⟨_, rfl, _, rfl, by omega, by omega, fun L nL => ?_⟩
      refine lcmG (walk_range (lo := 0) (n := (k : Int).toNat)) d nL (fun H i v => ∃ e, entK k e = true ∧ v = entryV e) (fun _ _ _ _ _ p => p) (by omega) (fun _ _ => trivial) (fun i x H1 H' N hi g1 hy hN => ?_) (fun H1 ys g1 eL ly hp => ?_)
      · obtain ⟨rfl, rfl⟩ := hy
        refine ⟨rfl, _, rfl, by show 1 ≤ sizeLine; decide, fun p1 n1 => ?_⟩
        generalize hX : upd H' p1 _ = H2
        have s2 : Same H' H2 := by
          rw [← hX]
          exact same_upd n1
        have e1 := (congrFun hX p1).symm.trans upd_same
        clear hX
        refine ⟨_, rfl, _, rfl, .of_le (by omega) (by omega) (by omega) (by omega), fun p2 n2 => ?_⟩
        generalize hX : upd H2 p2 _ = H3
        have s3 : Same H2 H3 := by
          rw [← hX]
          exact same_upd n2
        have f2 := (congrFun hX p2).symm.trans upd_same
        clear hX
        have lr : (rgV 0 (k : Int)).length = k := by rw [rgV_length]; omega
        refine ⟨p2, 2, _, rfl, rfl, f2, by omega, by omega, by rw [lr, sizeLine_eq, show (2 : Int).toNat = 2 from rfl]; omega, fun p3 n3 => ?_⟩
        have mem : ∀ v ∈ (List.replicate (2 : Int).toNat (rgV 0 (k : Int))).flatten, ∃ j : Nat, j < k ∧ v = .int (j : Int) := fun v hv => by
          obtain ⟨l, hl, hv⟩ := List.mem_flatten.mp hv
          rw [List.eq_of_mem_replicate hl] at hv
          obtain ⟨j, hj, rfl⟩ := List.mem_map.mp hv
          have := List.mem_range.mp hj
          exact ⟨j, by omega, by rw [Int.zero_add]⟩
        have lf : (List.replicate (2 : Int).toNat (rgV 0 (k : Int))).flatten.length = 2 * k := by
          rw [List.length_flatten, List.map_replicate, lr, show (2 : Int).toNat = 2 from rfl]
          simp [List.replicate]
          omega
        generalize (List.replicate (2 : Int).toNat (rgV 0 (k : Int))).flatten = fl at mem lf ⊢
        generalize hX : upd H3 p3 _ = H4
        have s4 : Same H3 H4 := by
          rw [← hX]
          exact same_upd n3
        have f3 := (congrFun hX p3).symm.trans upd_same
        clear hX
        refine ⟨p1, p3, _, _, rfl, rfl, s4 _ _ (s3 _ _ e1), f3, by rw [lf, sizeLine_eq]; show 1 + 2 * k ≤ _; omega, fun p4 n4 => ?_⟩
        generalize hX : upd H4 p4 _ = H5
        have s5 : Same H4 H5 := by
          rw [← hX]
          exact same_upd n4
        have f4 := (congrFun hX p4).symm.trans upd_same
        clear hX
        have g5 := ((g1.same s2).same s3).same (s4.trans s5)
        refine ⟨D, p4, _, g5.2, rfl, .inl (.inl f4), (g1.same (s2.trans (s3.trans s4))).2.ne n4, (fun z => nomatch z), by show (fl.length + 1) < 1000; omega, fun v H6 hv g6 f6 => ?_⟩
        refine hN v H6 ((Go.of g1.2 (s2.trans (s3.trans (s4.trans s5)))).trans g6) ?_
        rcases List.mem_cons.mp hv with rfl | hv
        · exact ⟨none, rfl, rfl⟩
        · obtain ⟨j, hj, rfl⟩ := mem v hv
          exact ⟨some j, decide_eq_true hj, rfl⟩
      · have ly2 : ys.length = k := by omega
        have ex := ents_of ys hp
        rw [ly2] at ex
        obtain ⟨es, l1, l2, rfl⟩ := ex
        exact hN0 _ _ ⟨L, es, rfl, g1, d.ne nL, eL, l1, l2⟩
    rintro _ H1 ⟨L, es, rfl, g1, LD, eL, l1, l2⟩
    refine ⟨_, rfl, by show 4 ≤ sizeLine; decide, fun p5 n5 => ?_⟩
    have n5D := g1.2.ne n5
    generalize hX : upd H1 p5 _ = H6
    have s6 : Same H1 H6 := by
      rw [← hX]
      exact same_upd n5
    have e6 := (congrFun hX p5).symm.trans upd_same
    clear hX
    have g6 := g1.same s6
    refine ⟨D, p5, _, g6.2, rfl, .inl (.inl e6), n5D, (fun z => nomatch z), by show 4 < 1000; decide, fun v H7 hv g7 _ => ?_⟩
    have ev : ∃ z : Str, wordB z = true ∧ v = .str z := by
      simp only [List.mem_cons, List.not_mem_nil, or_false] at hv
      rcases hv with rfl | rfl | rfl | rfl
      · exact ⟨_, (by decide +kernel : wordB "a" = true), rfl⟩
      · exact ⟨_, (by decide +kernel : wordB "b" = true), rfl⟩
      · exact ⟨_, (by decide +kernel : wordB "go" = true), rfl⟩
      · exact ⟨_, (by decide +kernel : wordB "abcdefgh" = true), rfl⟩
    obtain ⟨z, wz, rfl⟩ := ev
    have g77 := g6.trans g7
    have eL7 := g7.1 _ _ LD (s6 _ _ eL)
    refine ⟨_, rfl, L, _, rfl, .inl ⟨.inl (.inl eL7), fun p8 n8 => ?_⟩⟩
    generalize hX : upd H7 p8 _ = H8
    have s8 : Same H7 H8 := by
      rw [← hX]
      exact same_upd n8
    have e8 := (congrFun hX p8).symm.trans upd_same
    clear hX
    refine ⟨by show 3 ≤ sizeLine; decide, fun p9 n9 => ?_⟩
    have s9 := same_upd (o := .tup [V.str "do", V.str z, V.ref p8]) n9
    refine q _ _ ((g77.same s8).same s9) fun tb own => ?_
    exact gl_deed (tb := tb) (own := own) d3 d1 wz l1 l2 (.inl (.inl upd_same)) (.tup (.inl (.inl (s9 _ _ e8))) (ents_dp es))
end
end FS
set_option Elab.async false
set_option linter.all false
set_option maxRecDepth 100000
set_option maxHeartbeats 4000000
/-! drawn programs: lemmas -/
namespace FS
open PySem PySem.Spec PyProof.Rows L2
theorem plan_heads {H : Hp} {pl hd : Addr} {m : Int} (e : H pl = some (.dK (planL m hd))) : DGet H pl (.str "heads") (some (.ref hd)) := by
  have h : DGet H pl (kV (Sum.inr "heads")) (valV (planL m hd) (Sum.inr "heads")) := DGet.k e
  rw [show valV (planL m hd) (Sum.inr "heads") = some (.ref hd) from (valV_neg (fun z => absurd (Sum.inr.inj z) (by decide +kernel))).trans (valV_pos rfl)] at h
  exact h
theorem plan_modes {H : Hp} {pl hd : Addr} {m : Int} (e : H pl = some (.dK (planL m hd))) : DGet H pl (.str "modes") (some (.int m)) := by
  have h : DGet H pl (kV (Sum.inr "modes")) (valV (planL m hd) (Sum.inr "modes")) := DGet.k e
  rw [show valV (planL m hd) (Sum.inr "modes") = some (.int m) from valV_pos rfl] at h
  exact h
theorem head_get {K : PySem.W.Frag} {H : Hp} {hd : Addr} {kvs : List (Key × V)} {hs : List (Str × List Bool)} (e : H hd = some (.dK kvs)) (x : HdV K H kvs hs) (nd : (hs.map (·.1)).Nodup) {z : Str} {ks : List Bool} (h : (z, ks) ∈ hs) : ∃ (a : Addr) (xs : List V), DGet H hd (.str z) (some (.ref a)) ∧ SqT K H a xs ∧ DpAll K H xs (ks.map fun b => .str (kd b)) := by
  obtain ⟨v, e1, e2⟩ := x.get nd h
  obtain ⟨a, xs, rfl, sq, r⟩ := Dp.tup_inv (show Dp K H v (.tuple (ks.map fun b => .str (kd b))) from e2)
  have h : DGet H hd (kV (Sum.inr z)) (valV kvs (Sum.inr z)) := DGet.k e
  rw [e1] at h
  exact ⟨a, xs, h, sq, r⟩
/-- the last kind is a block -/
def lastB (ks : List Bool) : Bool := decide (ks.drop (ks.length - 1) = [false])
def lkB (hs : List (Str × List Bool)) (z : Str) : Bool := hs.any fun p => decide (p.1 = z) && lastB p.2
theorem lkB_of {hs : List (Str × List Bool)} (nd : (hs.map (·.1)).Nodup) {z : Str} {ks : List Bool} (h : (z, ks) ∈ hs) : lkB hs z = lastB ks := by
  unfold lkB
  induction hs with
  | nil => cases h
  | cons p r ih =>
    obtain ⟨n1, n2⟩ := List.nodup_cons.mp nd
    rw [List.any_cons]
    rcases List.mem_cons.mp h with e | h
    · subst e
      have : (r.any fun p => decide (p.1 = z) && lastB p.2) = false := by
        rw [List.any_eq_false]
        intro p hp
        rw [decide_eq_false (fun e : p.1 = z => n1 (List.mem_map.mpr ⟨p, hp, e⟩))]
        exact Bool.false_ne_true
      rw [this, Bool.or_false, decide_eq_true rfl, Bool.true_and]
    · rw [ih n2 h, decide_eq_false (fun e : p.1 = z => n1 (List.mem_map.mpr ⟨_, h, e.symm⟩)), Bool.false_and, Bool.false_or]
theorem lkB_mem {hs : List (Str × List Bool)} {z : Str} (h : lkB hs z = true) : ∃ ks, (z, ks) ∈ hs ∧ lastB ks = true := by
  obtain ⟨p, hp, e⟩ := List.any_eq_true.mp h
  obtain ⟨e1, e2⟩ := Bool.and_eq_true_iff.mp e
  have := of_decide_eq_true e1
  subst this
  exact ⟨p.2, hp, e2⟩
theorem lastB_app {ks : List Bool} (h : lastB ks = true) : ks = ks.take (ks.length - 1) ++ [false] := by
  have h := of_decide_eq_true h
  conv => lhs; rw [← List.take_append_drop (ks.length - 1) ks, h]
theorem list_eq_nil {K : PySem.W.Frag} {H : Hp} {p q : Addr} {ys : List Str} {Q : VK} (e : H p = some (.lst (ys.map V.str))) (f : H q = some (.lst [])) (ok : ∀ z ∈ ys, PyData.strOk z = true) (h : Q (.bl ys.isEmpty) H) : rEqD K (.ref p) (.ref q) H Q := by
  refine ⟨.list (ys.map PyData.str), .list [], .lst (.inl (.inl e)) (dp_strs ys), .lst (.inl (.inl f)) .nil, list_shaped ok, rfl, ?_⟩
  have : PyData.eqv (.list (ys.map PyData.str)) (.list []) = ys.isEmpty := by
    cases ys <;> rfl
  rw [this]
  exact h
/-- each is None or a drawn part -/
def OrNon (K : PySem.W.Frag) (H : Hp) (m : Int) (tb : Tbl) (own : List (Str × Bool)) (d c : Nat) (ks : List Bool) (i : Nat) (y : V) : Prop := y = .non ∨ ∃ k t, ks[i]? = some k ∧ GotL K H m tb own d c k y t
section
variable {K : PySem.W.Frag} {H : Hp} {m : Int} {tb : Tbl} {own : List (Str × Bool)} {d c : Nat}
theorem non_data (po : ∀ p ∈ own, wordB p.1 = true) (d50 : d ≤ 50) : ∀ (ks : List Bool) (ys : List V), (∀ (i : Nat) (y : V), ys[i]? = some y → OrNon K H m tb own d c ks i y) → ∃ ds, DpAll K H ys ds ∧ (∀ x ∈ ds, x.canLay0 = true ∧ x.depth ≤ 60) ∧ ((ds.any fun z => PyData.eqv z .none) = false → ∀ (i : Nat) (y : V), ys[i]? = some y → ∃ k t, ks[i]? = some k ∧ GotL K H m tb own d c k y t)
  | _, [], _ => ⟨[], .nil, (fun _ h => nomatch h), fun _ i y h => by cases h⟩
  | [], y :: ys, h => by
    obtain ⟨ds, h1, h2, h3⟩ := non_data po d50 [] ys fun i z hz => (h (i + 1) z hz).imp id fun ⟨k, t, e, g⟩ => by cases e
    rcases h 0 y rfl with rfl | ⟨k, t, e, g⟩
    · refine ⟨.none :: ds, .cons .non h1, fun x hx => ?_, fun e => ?_⟩
      · rcases List.mem_cons.mp hx with rfl | hx
        · exact ⟨rfl, by decide⟩
        · exact h2 x hx
      · rw [List.any_cons, show PyData.eqv .none .none = true from rfl, Bool.true_or] at e
        cases e
    · cases e
  | k :: ks, y :: ys, h => by
    obtain ⟨ds, h1, h2, h3⟩ := non_data po d50 ks ys fun i z hz => h (i + 1) z hz
    rcases h 0 y rfl with rfl | ⟨k', t, e, g⟩
    · refine ⟨.none :: ds, .cons .non h1, fun x hx => ?_, fun e => ?_⟩
      · rcases List.mem_cons.mp hx with rfl | hx
        · exact ⟨rfl, by decide⟩
        · exact h2 x hx
      · rw [List.any_cons, show PyData.eqv .none .none = true from rfl, Bool.true_or] at e
        cases e
    · cases e
      refine ⟨t.data :: ds, .cons g.dp h1, fun x hx => ?_, fun e => ?_⟩
      · rcases List.mem_cons.mp hx with rfl | hx
        · exact ⟨g.good.good.lay po, by have := t.depth; have := g.deep; omega⟩
        · exact h2 x hx
      · rw [List.any_cons] at e
        obtain ⟨e1, e2⟩ := Bool.or_eq_false_iff.mp e
        intro i z hz
        cases i with
        | zero => cases hz; exact ⟨k, t, rfl, g⟩
        | succ i => exact h3 e2 i z hz
theorem depth_all : ∀ ds : List PyData, (∀ x ∈ ds, x.depth ≤ 60) → PyData.depthAll ds ≤ 60
  | [], _ => Nat.zero_le _
  | d :: r, h => by
    show max d.depth (PyData.depthAll r) ≤ 60
    have := h d List.mem_cons_self
    have := depth_all r fun x hx => h x (List.mem_cons_of_mem _ hx)
    omega
/-- None in the list -/
theorem none_in {L : Addr} {ks : List Bool} {ys : List V} {Q : VK} (po : ∀ p ∈ own, wordB p.1 = true) (d50 : d ≤ 50) (eL : H L = some (.lst ys)) (h : ∀ (i : Nat) (y : V), ys[i]? = some y → OrNon K H m tb own d c ks i y) (q1 : Q (.bl true) H) (q0 : (∀ (i : Nat) (y : V), ys[i]? = some y → ∃ k t, ks[i]? = some k ∧ GotL K H m tb own d c k y t) → Q (.bl false) H) : rInD K .non (.ref L) H Q := by
  obtain ⟨ds, h1, h2, h3⟩ := non_data po d50 ks ys h
  refine ⟨.none, ds, .non, .lst (.inl (.inl eL)) h1, rfl, shaped_of (lay_all ds fun x hx => (h2 x hx).1) ?_, ?_⟩
  · show PyData.depthAll ds + 1 ≤ 64
    have := depth_all ds fun x hx => (h2 x hx).2
    omega
  · cases e : (ds.any fun z => PyData.eqv z .none) with
    | true => exact q1
    | false => exact q0 (h3 e)
end
theorem Good.words {own : List (Str × Bool)} (po : ParOk own) : ∀ p ∈ own, wordB p.1 = true := po.nms
/-- a comprehension with an if: what all that is made is -/
theorem lcA {J : It} {n : Nat} {G : Hp → Prop} {Y : Nat → Hp → V → Hp → Prop} {g : TG} {tt : TT} {te : TE} {vs : List Nat} {σ : L2.St} {H1 : Hp} {D : Addr} {Qd : Hp → Prop} {inv : Hp → Prop} {S : Hp → Hp → Prop} (w : Walk J n G Y) (k : Kept D H1 inv S) (P : Hp → V → Prop) (ps : ∀ H H' y, inv H → S H H' → P H y → P H' y) (pu : ∀ H xs ys y, inv H → H D = some (.lst xs) → P H y → P (upd H D (.lst ys)) y)
    (hn : n < 16000) (hG : ∀ H, inv H → G H)
    (hs : ∀ i x H H' (N1 : VK) (N0 : Hp → Prop), i < n → inv H → Y i H x H' → (∀ y H4, S H H4 → P H4 y → N1 y H4) → (∀ H4, S H H4 → N0 H4) → g x (wipe σ vs) H' fun σ2 H2 => wipe σ2 vs = wipe σ vs ∧ tt σ2 H2 fun b H3 => if b = true then te σ2 H3 N1 else N0 H3)
    (hd : ∀ H ys, inv H → H D = some (.lst ys) → ys.length ≤ n → (∀ y ∈ ys, P H y) → Qd H) :
    ∃ W : Nat → Nat → Hp → Prop, (∃ m, W 0 m (upd H1 D (.lst []))) ∧ ∀ i m H, W i m H →
      (J.stop i H ∧ Qd H) ∨ (J.go i H ∧ ∃ Nx : Hp → Prop, (∀ H', Nx H' → ∃ m', m' < m ∧ W (i + 1) m' H') ∧ ∀ x H', J.yld i H x H' → g x (wipe σ vs) H' fun σ2 H2 => wipe σ2 vs = wipe σ vs ∧ tt σ2 H2 fun b H3 =>
        if b = true then te σ2 H3 fun y H4 => ∃ acc, H4 D = some (.lst acc) ∧ acc.length < sizeLine ∧ Nx (upd H4 D (.lst (acc ++ [y]))) else Nx H3) := by
  refine lc_it w (fun i H => inv H ∧ ∃ ys, H D = some (.lst ys) ∧ ys.length ≤ i ∧ ∀ y ∈ ys, P H y) ⟨k.i0, [], upd_same, Nat.le_refl _, fun y h => nomatch h⟩ (fun i H _ h => hG H h.1) (fun i x H H' hi h hy => ?_) (fun H h => ?_)
  · obtain ⟨iv, ys, eD, ly, hp⟩ := h
    refine hs i x H H' _ _ hi iv hy (fun y H4 s p => ?_) (fun H4 s => ?_)
    · have iv4 := k.st _ _ iv s
      have eD4 := k.sL _ _ _ iv s eD
      refine ⟨ys, eD4, small16 (by omega), k.pu _ _ _ iv4 eD4, ys ++ [y], upd_same, by rw [List.length_append]; show ys.length + 1 ≤ _; omega, fun z hz => ?_⟩
      rcases List.mem_append.mp hz with hz | hz
      · exact pu _ _ _ _ iv4 eD4 (ps _ _ _ iv s (hp z hz))
      · rw [List.mem_singleton.mp hz]
        exact pu _ _ _ _ iv4 eD4 p
    · exact ⟨k.st _ _ iv s, ys, k.sL _ _ _ iv s eD, by omega, fun z hz => ps _ _ _ iv s (hp z hz)⟩
  · obtain ⟨iv, ys, eD, ly, hp⟩ := h
    exact hd H ys iv eD ly hp
/-- nothing that stood changes -/
theorem lcAS {J : It} {n : Nat} {G : Hp → Prop} {Y : Nat → Hp → V → Hp → Prop} {g : TG} {tt : TT} {te : TE} {vs : List Nat} {σ : L2.St} {H1 : Hp} {D : Addr} {Qd : Hp → Prop} (w : Walk J n G Y) (nD : H1 D = none) (P : Hp → V → Prop) (pt : ∀ H H' y, TK H H' → P H y → P H' y) (hn : n < 16000) (hG : ∀ H, Same H1 H → G H)
    (hs : ∀ i x H H' (N1 : VK) (N0 : Hp → Prop), i < n → Same H1 H → Y i H x H' → (∀ y H4, Same H H4 → P H4 y → N1 y H4) → (∀ H4, Same H H4 → N0 H4) → g x (wipe σ vs) H' fun σ2 H2 => wipe σ2 vs = wipe σ vs ∧ tt σ2 H2 fun b H3 => if b = true then te σ2 H3 N1 else N0 H3)
    (hd : ∀ H ys, Same H1 H → H D = some (.lst ys) → ys.length ≤ n → (∀ y ∈ ys, P H y) → Qd H) :
    ∃ W : Nat → Nat → Hp → Prop, (∃ m, W 0 m (upd H1 D (.lst []))) ∧ ∀ i m H, W i m H →
      (J.stop i H ∧ Qd H) ∨ (J.go i H ∧ ∃ Nx : Hp → Prop, (∀ H', Nx H' → ∃ m', m' < m ∧ W (i + 1) m' H') ∧ ∀ x H', J.yld i H x H' → g x (wipe σ vs) H' fun σ2 H2 => wipe σ2 vs = wipe σ vs ∧ tt σ2 H2 fun b H3 =>
        if b = true then te σ2 H3 fun y H4 => ∃ acc, H4 D = some (.lst acc) ∧ acc.length < sizeLine ∧ Nx (upd H4 D (.lst (acc ++ [y]))) else Nx H3) :=
  lcA w (kept_same nD) P (fun _ _ _ _ s => pt _ _ _ (.of s)) (fun _ _ _ _ _ e => pt _ _ _ (TK.set e rfl)) hn hG hs hd
/-- ("own", x), x a wrap -/
def OwnV (K : PySem.W.Frag) (own : List (Str × Bool)) (H : Hp) (y : V) : Prop := ∃ p nm, y = .ref p ∧ SqT K H p [V.str "own", V.str nm] ∧ (nm, true) ∈ own
theorem own_data {K : PySem.W.Frag} {own : List (Str × Bool)} {H : Hp} (po : ParOk own) : ∀ ys : List V, (∀ y ∈ ys, OwnV K own H y) → ∃ ds, DpAll K H ys ds ∧ (∀ x ∈ ds, x.canLay0 = true ∧ x.depth ≤ 60) ∧ ds.length = ys.length
  | [], _ => ⟨[], .nil, (fun _ h => nomatch h), rfl⟩
  | y :: ys, h => by
    obtain ⟨p, nm, rfl, sq, mm⟩ := h y List.mem_cons_self
    obtain ⟨ds, h1, h2, h3⟩ := own_data po ys fun z hz => h z (List.mem_cons_of_mem _ hz)
    refine ⟨.tuple [.str "own", .str nm] :: ds, .cons (.tup sq (.cons (.str _) (.cons (.str _) .nil))) h1, fun x hx => ?_, by rw [List.length_cons, List.length_cons, h3]⟩
    rcases List.mem_cons.mp hx with rfl | hx
    · refine ⟨?_, by show max 0 (max 0 0) + 1 ≤ 60; decide⟩
      show (PyData.strOk "own" && (PyData.strOk nm && true)) = true
      rw [(word_ok (po.nms _ mm)).1]
      decide +kernel
    · exact h2 x hx
theorem own_ne {K : PySem.W.Frag} {own : List (Str × Bool)} {H : Hp} {p q : Addr} {ys : List V} {Q : VK} (po : ParOk own) (e : H p = some (.lst ys)) (f : H q = some (.lst [])) (h : ∀ y ∈ ys, OwnV K own H y) (k : Q (.bl (!ys.isEmpty)) H) : rNeD K (.ref p) (.ref q) H Q := by
  obtain ⟨ds, h1, h2, h3⟩ := own_data po ys h
  refine ⟨.list ds, .list [], .lst (.inl (.inl e)) h1, .lst (.inl (.inl f)) .nil, shaped_of (lay_all ds fun x hx => (h2 x hx).1) ?_, rfl, ?_⟩
  · show PyData.depthAll ds + 1 ≤ 64
    have := depth_all ds fun x hx => (h2 x hx).2
    omega
  · have : PyData.eqv (.list ds) (.list []) = ys.isEmpty := by
      cases ds with
      | nil =>
        cases ys with
        | nil => rfl
        | cons _ _ => cases h3
      | cons _ _ =>
        cases ys with
        | nil => cases h3
        | cons _ _ => rfl
    rw [this]
    exact k
theorem OwnV.tk {K : PySem.W.Frag} {own : List (Str × Bool)} {H H' : Hp} {y : V} (e : TK H H') (h : OwnV K own H y) : OwnV K own H' y := by
  obtain ⟨p, nm, h1, h2, h3⟩ := h
  exact ⟨p, nm, h1, e.sqT h2, h3⟩
theorem dps_drop {K : PySem.W.Frag} {H : Hp} : ∀ (i : Nat) {xs : List V} {ds : List PyData}, DpAll K H xs ds → DpAll K H (xs.drop i) (ds.drop i)
  | 0, _, _, h => h
  | _ + 1, _, _, .nil => .nil
  | i + 1, _, _, .cons _ g => dps_drop i g
theorem kinds_at {ks : List Bool} {i : Nat} {d : PyData} (h : (ks.map fun b => PyData.str (kd b))[i]? = some d) : ∃ k, ks[i]? = some k ∧ d = .str (kd k) := by
  rw [List.getElem?_map] at h
  obtain ⟨k, hk, rfl⟩ := Option.map_eq_some_iff.mp h
  exact ⟨k, hk, rfl⟩
theorem fm_filter (p : Str → Bool) (ns : List Str) : ns.filterMap (fun z => if p z then some (V.str z) else none) = (ns.filter p).map V.str := by
  induction ns with
  | nil => rfl
  | cons z r ih =>
    rw [List.filterMap_cons, List.filter_cons]
    cases ek : p z with
    | true =>
      simp only [if_true, List.map_cons]
      rw [ih]
    | false =>
      simp only [Bool.false_eq_true, if_false]
      exact ih
/-- a word that may be drawn -/
def WordO (own : List (Str × Bool)) (z : Int) (w : Str) : Prop := w = "do" ∨ (w = "run" ∧ namesOf own false ≠ []) ∨ (0 < z ∧ w ∈ (["seq", "seq", "or", "call", "call", "wrap", "none"] : List Str))
theorem WordO.run {own : List (Str × Bool)} {z : Int} (h : WordO own z "run") : namesOf own false ≠ [] := by
  rcases h with h | ⟨_, h⟩ | ⟨_, h⟩
  · exact absurd h (by decide +kernel)
  · exact h
  · exact absurd h (by decide +kernel)
theorem WordO.big {own : List (Str × Bool)} {z : Int} {w : Str} (h : WordO own z w) (n1 : w ≠ "do") (n2 : w ≠ "run") : 0 < z ∧ w ∈ (["seq", "seq", "or", "call", "call", "wrap", "none"] : List Str) := by
  rcases h with h | ⟨h, _⟩ | h
  · exact absurd h n1
  · exact absurd h n2
  · exact h
end FS
set_option Elab.async false
set_option linter.all false
set_option maxRecDepth 100000
set_option maxHeartbeats 4000000
namespace FS
open PySem PySem.Spec PyProof.Rows L2
section
variable {P : Program} {w : World} {K : PySem.W.Frag} {mg : Str → Option Value} {base : Heap}
abbrev N_law_handed : List Str := ["_law_sack_here", "_law_plan", "_law_own", "_law_deep", "_law_kind", "_law_wraps", "_law_heads", "_law_name", "_law_given", "_law_sort"]
theorem sc_law_handed : FnScope N_law_handed ["_law_sack_here", "_law_plan", "_law_own", "_law_deep", "_law_kind"] (defScope s_law_handed) := ⟨rfl, rfl, rfl, by decide +kernel, rfl, by decide +kernel, by decide +kernel⟩
theorem ok_l_handed {f : Addr} {fd : FuncData} (F : Fun K "_law_handed" "_law_handed" s_law_handed f fd) (T : Nm K mg) {n k : Nat} (hk3 : 3 ≤ k) (hn4 : n ≤ 4) (Cl_deal : Cal P w K mg base 1 "_law_deal" ["_law_sack_here", "_law_size"] spCast) (Cl_pick : Cal P w K mg base 2 "_law_pick" ["_law_sack_here", "_law_items"] (spPick K)) (Cl_term : Cal P w K mg base k "_law_term" ["_law_sack_here", "_law_plan", "_law_own", "_law_deep"] (spTermK K (n - 1))) (Cl_handed : Cal P w K mg base k "_law_handed" ["_law_sack_here", "_law_plan", "_law_own", "_law_deep", "_law_kind"] (spHandQ K n)) : FnOk P w K mg base CX0 (k + 1) f fd ["_law_sack_here", "_law_plan", "_law_own", "_law_deep", "_law_kind"] (spHandK K n) := by
  have nd := sc_law_handed.nd
  refine F.ok sc_law_handed (fun vs H Q E h => ?_) (fun cdv A outer s H vs Q E hr h => ?_)
  · obtain ⟨D, pl, oa, m, tb, own, hs, z, b, rfl, hz, ak, qn, q⟩ := h
    rfl
  · obtain ⟨D, pl, oa, m, tb, own, hs, z, b, rfl, hz, ak, qn, q⟩ := h
    obtain ⟨hd, kvs, ep, eh, hv, hdD⟩ := ak.plan
    obtain ⟨vg, hg, dg⟩ := ak.otab
    have po := ak.po
    have p3 := po.few
    refine ⟨_, (pss_cons (ps_if (pt_cmpR op_eq (pv 4) pe_str (nomark _))
  (pss_one (ps_ret (pe_own Cl_term (hr.mono (by omega)) (by rfl) (pa_cons (pv 0) (pa_cons (pv 1) (pa_cons (pv 2) (pa_cons (pe_op op_sub (pv 3) pe_int) pa_nil)))))))
  pss_nil)
  (pss_cons (ps_setLc (i := 5) (own := [("_law_name", 7), ("_law_sort", 9)]) (g := gTup K 2 (gCons (gName 7) (gCons (gName 9) gNil))) rfl nd rfl rfl (sw_true rfl rfl rfl (by decide +kernel)) (pi_list (pv 2)) (blkOk_by (own := [("_law_name", 7), ("_law_sort", 9)]) (N := N_law_handed) (sc := defScope s_law_handed) (by decide +kernel)) (fun _ _ _ _ _ => (pg_tup rfl (pgs_cons (pg_name (i := 7) nd rfl (Or.inl rfl)) (pgs_cons (pg_name (i := 9) nd rfl (Or.inl rfl)) pgs_nil)))) (fun _ _ _ _ _ => pts_one (pt_cmpR op_eq (pv 9) pe_str (nomark _))) (fun _ _ _ _ _ => (pe_tup (pa_cons pe_str (pa_cons (pv 7) pa_nil)))))
  (pss_cons (ps_setLc (i := 6) (own := [("_law_name", 7)]) (g := gName 7) rfl nd rfl rfl (sw_true rfl rfl rfl (by decide +kernel)) (pi_list (pe_callB (call_sortedD rfl) (by rfl) T.b_sorted (by decide +kernel) (pa_cons (pe_dget (u1 hr) (pv 1) pe_str (fun _ _ => rfl)) pa_nil))) (blkOk_by (own := [("_law_name", 7)]) (N := N_law_handed) (sc := defScope s_law_handed) (by decide +kernel)) (fun _ _ _ _ _ => (pg_name (i := 7) nd rfl (Or.inl rfl))) (fun _ _ _ _ _ => pts_one (pt_cmpR (op_eqDK (K := K) rfl hr.units) (pe_slice (sl_tupK (K := K) rfl) (pe_dget (u1 hr) (pe_dget (u1 hr) (pv 1) pe_str (fun _ _ => rfl)) (pv 7) (fun _ _ => rfl)) (po_some (pe_un un_neg pe_int)) po_none) (pe_tup (pa_cons pe_str pa_nil)) (nomark _))) (fun _ _ _ _ _ => (pv 7)))
  (pss_cons (ps_if (PW.pt (pw_and (pt_cmpR (op_neD hr.units) (pv 5) (pe_lst pa_nil) (nomark _)) (pw_and1 (PW.pt (pw_or (pt_cmpR (op_eqD hr.units) (pv 6) (pe_lst pa_nil) (nomark _)) (pw_or1 (pt_cmpR op_eq (pe_own Cl_deal (hr.mono (by omega)) (by rfl) (pa_cons (pv 0) (pa_cons pe_int pa_nil))) pe_int (nomark _))))))))
  (pss_one (ps_ret (pe_own Cl_pick (hr.mono (by omega)) (by rfl) (pa_cons (pv 0) (pa_cons (pv 5) pa_nil)))))
  pss_nil)
  (pss_cons (ps_if (PW.pt (pw_or (pt_cmpR (op_eqD hr.units) (pv 6) (pe_lst pa_nil) (nomark _)) (pw_or1 (pt_cmpR op_lt (pv 3) pe_int (nomark _)))))
  (pss_one (ps_ret pe_non))
  pss_nil)
  (pss_cons (ps_set (i := 7) nd rfl (Or.inl rfl) (pe_own Cl_pick (hr.mono (by omega)) (by rfl) (pa_cons (pv 0) (pa_cons (pv 6) pa_nil))))
  (pss_cons (ps_setLc (i := 8) (own := [("_law_sort", 9)]) (g := gName 9) (tt := tYes) rfl nd rfl rfl (sw_true rfl rfl rfl (by decide +kernel)) (pi_tup (pe_slice sl_tupA (pe_dget (u1 hr) (pe_dget (u1 hr) (pv 1) pe_str (fun _ _ => rfl)) (pv 7) (fun _ _ => rfl)) po_none (po_some (pe_un un_neg pe_int)))) (blkOk_by (own := [("_law_sort", 9)]) (N := N_law_handed) (sc := defScope s_law_handed) (by decide +kernel)) (fun _ _ _ _ _ => (pg_name (i := 9) nd rfl (Or.inl rfl))) (fun _ _ _ _ _ => pts_nil) (fun _ _ _ _ _ => (pe_own Cl_handed (hr.mono (by omega)) (by rfl) (pa_cons (pv 0) (pa_cons (pv 1) (pa_cons (pv 2) (pa_cons (pe_op op_sub (pv 3) pe_int) (pa_cons (pv 9) pa_nil))))))))
  (pss_one (ps_ret (pe_ifExp (pt_cmpR (op_inD (u65 hr)) pe_non (pv 8) (by rfl)) pe_non (pe_op op_catA (pe_tup (pa_cons pe_str (pa_cons (pv 7) pa_nil))) (pe_callTy call_tuple_of (by rfl) T.b_tuple (by decide +kernel) (pa_cons (pv 8) pa_nil))))))))))))), ?_⟩

    refine ifr_gen (fun H' => H' = H ∧ b = false) (fun H' => H' = H ∧ b = true) (fun Q' y0 n0 => ⟨_, rfl, rfl, _, rfl, ?_⟩) (fun H1 h1 => ?_) (fun H1 h1 => ?_)
    · cases b with
      | false => rw [show decide (V.str (kd false) = V.str "block") = true by decide +kernel]; exact y0 _ ⟨rfl, rfl⟩
      | true => rw [show decide (V.str (kd true) = V.str "block") = false by decide +kernel]; exact n0 _ ⟨rfl, rfl⟩
    · obtain ⟨rfl, rfl⟩ := h1
      refine ⟨_, rfl, _, rfl, _, rfl, _, rfl, _, _, rfl, rfl, ?_⟩
      exact ⟨D, pl, oa, m, tb, own, hs, z - 1, rfl, by omega, ak, fun v H' t g gt => q v H' t g (gt.up (by have := dT_le (n - 1); have := dT_pos (n - 1); cases n with | zero => exact Nat.le_refl _ | succ j => have := dT_le j; show dT j ≤ j + 2; omega) (by cases n with | zero => exact Nat.le_refl _ | succ j => show cT j ≤ cT j + 1; omega))⟩
    obtain ⟨rfl, rfl⟩ := h1
    refine seq_gen (P := fun σ' H2 => ∃ pw ys, σ' = [some (.ref D), some (.ref pl), some (.ref oa), some (.int z), some (.str (kd true)), some (.ref pw), none, none, none, none] ∧ Same H1 H2 ∧ H1 pw = none ∧ H2 pw = some (.lst ys) ∧ (∀ y ∈ ys, OwnV K own H2 y) ∧ ys.length ≤ 3) (fun N hN => ?_) ?_
    · have lvg : vg.length = own.length := by rw [DpAll.len dg, List.length_map]
      refine ⟨_, rfl, oa, rfl, ⟨_, .inl (.inl hg)⟩, fun L nL => ?_⟩
      refine lcAS (walk_list (xs := vg)) nL (OwnV K own) (fun _ _ _ e h => h.tk e) (by omega) (fun H' s => .inl (.inl (s _ _ hg))) (fun i x H2 H3 N1 N0 hi s hy y1 y0 => ?_) (fun H2 ys s eL ly hp => hN _ _ ⟨L, ys, rfl, s, nL, eL, hp, by omega⟩)
      obtain ⟨rfl, hx⟩ := hy
      obtain ⟨d, hd', dx⟩ := DpAll.get (DpAll.tk (.of s) (pars_noL own) dg) hx
      rw [List.getElem?_map] at hd'
      obtain ⟨p, hp, rfl⟩ := Option.map_eq_some_iff.mp hd'
      obtain ⟨b, ys, rfl, sb, rb⟩ := Dp.tup_inv (show Dp K H3 x (.tuple [.str p.1, .str (kd p.2)]) from dx)
      cases rb with
      | cons z1 rb => cases rb with
        | cons z2 rb =>
        cases rb
        cases Dp.str_inv z1
        cases Dp.str_inv z2
        refine ⟨b, _, rfl, sb, rfl, _, _, rfl, _, _, rfl, rfl, rfl, _, rfl, rfl, _, rfl, ?_⟩
        have ek : decide (V.str (kd p.2) = V.str "wrap") = p.2 := by
          cases p.2 <;> decide +kernel
        rw [ek]
        cases e : p.2 with
        | true => exact iteT ⟨_, rfl, by show 2 ≤ sizeLine; decide, fun q nq => y1 _ _ (same_upd nq) ⟨q, p.1, rfl, .inl (.inl upd_same), by rw [← e]; exact List.mem_of_getElem? hp⟩⟩
        | false => exact iteF (y0 _ (.refl _))
    rintro _ H2 ⟨pw, ws, rfl, s2, nw, ew, hw, lw⟩
    have pwD := ak.die.ne nw
    have ep2 := s2 _ _ ep
    have eh2 := s2 _ _ eh
    have hv2 := hv.tk (.of s2)
    have lhs : hs.length ≤ 3 := ak.few
    refine seq_gen (P := fun σ' H3 => ∃ (ph : Addr) (ns : List Str), σ' = [some (.ref D), some (.ref pl), some (.ref oa), some (.int z), some (.str (kd true)), some (.ref pw), some (.ref ph), none, none, none] ∧ Same H2 H3 ∧ H2 ph = none ∧ H3 ph = some (.lst ((ns.filter (lkB hs)).map V.str)) ∧ ns.Perm (hs.map (·.1))) (fun N hN => ?_) ?_
    · refine ⟨_, rfl, pl, _, rfl, plan_heads ep2, hd, kvs, hs.map (·.1), rfl, .inl eh2, hv2.keys, by rw [List.length_map]; omega, fun ns p pm _ np => ?_⟩
      generalize hX : upd H2 p _ = H3
      have s3 : Same H2 H3 := by
        rw [← hX]
        exact same_upd np
      have e3 := (congrFun hX p).symm.trans upd_same
      clear hX
      have lns : ns.length = hs.length := by rw [pm.length_eq, List.length_map]
      refine ⟨p, rfl, ⟨_, .inl (.inl e3)⟩, fun L nL => ?_⟩
      refine lcf (walk_list (xs := ns.map V.str)) (kept_same nL) (fun i => (ns[i]?).bind fun z => if lkB hs z then some (.str z) else none) (by rw [List.length_map]; omega) (fun H' s => .inl (.inl (s _ _ e3))) (fun i x H4 H5 N1 N0 hi s hy y1 y0 => ?_) (fun H4 s e => ?_)
      · obtain ⟨rfl, hx⟩ := hy
        rw [List.getElem?_map] at hx
        obtain ⟨zz, hz', rfl⟩ := Option.map_eq_some_iff.mp hx
        have mz : zz ∈ hs.map (·.1) := pm.mem_iff.mp (List.mem_of_getElem? hz')
        obtain ⟨⟨nm0, ks⟩, mk, rfl⟩ := List.mem_map.mp mz
        have s35 := s3.trans s
        obtain ⟨a, xs, dg', sa, ra⟩ := head_get (s35 _ _ eh2) (hv2.tk (.of s35)) ak.nd mk
        have ef : ((ns[i]?).bind fun z => if lkB hs z then some (V.str z) else none) = if lastB ks then some (V.str nm0) else none := by
          rw [hz', ← lkB_of ak.nd mk]
          rfl
        rw [ef] at y1 y0
        refine ⟨rfl, _, rfl, pl, _, rfl, plan_heads (s35 _ _ ep2), _, rfl, hd, _, rfl, dg', ?_⟩
        refine ⟨_, rfl, _, rfl, no_part (cut_last sa fun H6 q s6 sq6 => ?_)⟩
        refine ⟨by show 1 ≤ sizeLine; decide, fun pb nb => ?_⟩
        have sb := same_upd (o := .tup [V.str "block"]) nb
        have lx : xs.length = ks.length := by rw [DpAll.len ra, List.length_map]
        rw [lx] at sq6
        have rd : DpAll K H6 (xs.drop (ks.length - 1)) ((ks.drop (ks.length - 1)).map fun b => .str (kd b)) := by
          rw [List.map_drop]
          exact dps_drop _ (DpAll.tk (.of s6) (kindsD_noLs ks) ra)
        refine ⟨kindsD (ks.drop (ks.length - 1)), kindsD [false], .tup (Same.sqT sb sq6) (DpAll.tk (.of sb) (kindsD_noLs _) rd), .tup (.inl (.inl upd_same)) (.cons (.str _) .nil), kinds_shaped _, kinds_shaped _, _, rfl, ?_⟩
        rw [kinds_eqvB]
        have s66 := s6.trans sb
        cases e : lastB ks with
        | true =>
          rw [show decide (ks.drop (ks.length - 1) = [false]) = true from e]
          exact iteT ⟨_, rfl, y1 _ _ s66 (by rw [e]; rfl)⟩
        | false =>
          rw [show decide (ks.drop (ks.length - 1) = [false]) = false from e]
          exact iteF (y0 _ s66 (by rw [e]; rfl))
      · refine hN _ _ ⟨L, ns, rfl, s3.trans s, Same.free s3 nL, ?_, pm⟩
        rw [List.length_map, range_fm ns (fun z => if lkB hs z then some (V.str z) else none)] at e
        rw [e, fm_filter]
    rintro _ H3 ⟨ph, ns, rfl, s3, nph, eph, pm⟩
    have pwD2 : pw ≠ D := pwD
    have phD := (ak.same s2).die.ne nph
    have s23 := s2.trans s3
    have ew3 := s3 _ _ ew
    have hw3 : ∀ y ∈ ws, OwnV K own H3 y := fun y hy => (hw y hy).tk (.of s3)
    have ak3 := ak.same s23
    have okn : ∀ x ∈ ns.filter (lkB hs), PyData.strOk x = true := fun x hx => by
      obtain ⟨ks, mk, _⟩ := lkB_mem (List.mem_filter.mp hx).2
      exact (word_ok (ak.hok _ _ mk).1).1
    have lns : (ns.filter (lkB hs)).length ≤ 3 := by
      have := List.length_filter_le (lkB hs) ns
      have := pm.length_eq
      rw [List.length_map] at this
      omega
    clear s2 s3 ep2 eh2 hv2 hw ew nw nph hg dg
    refine ifr_gen (fun H' => Go D H3 H' ∧ ws ≠ []) (fun H' => Go D H3 H') (fun Q' y0 n0 => ?_) (fun H4 h4 => ?_) (fun H4 g4 => ?_)
    · refine ⟨_, rfl, Nat.zero_le _, fun p4 n4 => ?_⟩
      generalize hX : upd H3 p4 _ = H4
      have s4 : Same H3 H4 := by
        rw [← hX]
        exact same_upd n4
      have e4 := (congrFun hX p4).symm.trans upd_same
      clear hX
      refine own_ne po (s4 _ _ ew3) e4 (fun y hy => (hw3 y hy).tk (.of s4)) ⟨_, rfl, ite2 (fun e => ?_) (fun _ => n0 _ (.of ak3.die s4))⟩
      have nn : ws ≠ [] := fun z => by
        rw [z] at e
        cases e
      refine ⟨_, rfl, Nat.zero_le _, fun p5 n5 => ?_⟩
      generalize hX : upd H4 p5 _ = H5
      have s5 : Same H4 H5 := by
        rw [← hX]
        exact same_upd n5
      have e5 := (congrFun hX p5).symm.trans upd_same
      clear hX
      have s45 := s4.trans s5
      refine list_eq_nil (s45 _ _ eph) e5 okn ⟨_, rfl, ite2 (fun _ => y0 _ ⟨.of ak3.die s45, nn⟩) (fun _ => ?_)⟩
      refine ⟨_, rfl, D, 2, rfl, (ak3.same s45).die, by omega, by omega, fun w H6 _ _ g6 _ => ⟨rfl, _, rfl, ?_⟩⟩
      have gg := (Go.of ak3.die s45).trans g6
      generalize decide (V.int w = V.int 0) = b
      cases b with
      | true => exact y0 _ ⟨gg, nn⟩
      | false => exact n0 _ gg
    · obtain ⟨g4, nn⟩ := h4
      refine ⟨_, rfl, _, rfl, D, pw, _, g4.2, rfl, .inl (.inl (g4.1 _ _ pwD ew3)), pwD, nn, by omega, fun v H5 hv g5 _ => ?_⟩
      obtain ⟨p, nm, rfl, sq, mm⟩ := (hw3 v hv).tk ((g4.tk ak3.die).trans (g5.tk g4.2))
      obtain ⟨t, gt⟩ := gl_leaf (K := K) (H := H5) (m := m) (tb := tb) (own := own) (k := true) sq mm
      exact q _ _ t (((Go.of ak.die s23).trans g4).trans g5) (gt.up (by omega) (by cases n with | zero => exact Nat.le_refl _ | succ j => have := cT_pos j; show 1 ≤ cT j + 1; omega))
    have g14 := (Go.of ak.die s23).trans g4
    have eph4 := g4.1 _ _ phD eph
    have ak4 := ak.go g14
    clear ew3 hw3 eph ak3 g4 s23
    refine ifr_gen (fun H' => Same H4 H') (fun H' => Same H4 H' ∧ ns.filter (lkB hs) ≠ [] ∧ 1 ≤ z) (fun Q' y0 n0 => ?_) (fun H5 s5 => qn _ (g14.same s5)) (fun H5 h5 => ?_)
    · refine ⟨_, rfl, Nat.zero_le _, fun p5 n5 => ?_⟩
      generalize hX : upd H4 p5 _ = H5
      have s5 : Same H4 H5 := by
        rw [← hX]
        exact same_upd n5
      have e5 := (congrFun hX p5).symm.trans upd_same
      clear hX
      refine list_eq_nil (s5 _ _ eph4) e5 okn ⟨_, rfl, ite2 (fun _ => y0 _ s5) (fun e => ⟨_, rfl, _, _, rfl, rfl, _, rfl, ?_⟩)⟩
      have nn : ns.filter (lkB hs) ≠ [] := fun z => e (by rw [z]; rfl)
      by_cases hz1 : z < 1
      · rw [decide_eq_true hz1]
        exact y0 _ s5
      · rw [decide_eq_false hz1]
        exact n0 _ ⟨s5, nn, by omega⟩
    obtain ⟨s5, nn, z1⟩ := h5
    obtain ⟨j, rfl⟩ : ∃ j, n = j + 1 := ⟨n - 1, by omega⟩
    have g15 := g14.same s5
    have ak5 := ak4.same s5
    have eph5 := s5 _ _ eph4
    clear eph4 ak4 g14 s5
    refine seq_gen (P := fun σ' H6 => ∃ nm ks, σ' = [some (.ref D), some (.ref pl), some (.ref oa), some (.int z), some (.str (kd true)), some (.ref pw), some (.ref ph), some (.str nm), none, none] ∧ Go D H5 H6 ∧ (nm, ks) ∈ hs ∧ lastB ks = true) (fun N hN => ?_) ?_
    · refine ⟨_, rfl, _, rfl, D, ph, _, ak5.die, rfl, .inl (.inl eph5), phD, (fun z => nn (List.map_eq_nil_iff.mp z)), by rw [List.length_map]; omega, fun v H6 hv g6 _ => ?_⟩
      obtain ⟨nm, hn, rfl⟩ := List.mem_map.mp hv
      obtain ⟨ks, mk, lb⟩ := lkB_mem (List.mem_filter.mp hn).2
      exact hN _ _ ⟨nm, ks, rfl, g6, mk, lb⟩
    rintro _ H6 ⟨nm, ks, rfl, g56, mk, lb⟩
    have ak6 := ak5.go g56
    have g16 := g15.trans g56
    obtain ⟨wd, ft, k2⟩ := ak.hok _ _ mk
    have eks := lastB_app lb
    have lt2 : (ks.take (ks.length - 1)).length ≤ 1 := by
      rw [List.length_take]
      omega
    refine seq_gen (P := fun σ' H7 => ∃ L ys, σ' = [some (.ref D), some (.ref pl), some (.ref oa), some (.int z), some (.str (kd true)), some (.ref pw), some (.ref ph), some (.str nm), some (.ref L), none] ∧ Go D H6 H7 ∧ H7 L = some (.lst ys) ∧ ys.length = (ks.take (ks.length - 1)).length ∧ ∀ (i : Nat) (y : V), ys[i]? = some y → OrNon K H7 m tb own (j + 1) (cW j) (ks.take (ks.length - 1)) i y) (fun N hN => ?_) ?_
    · obtain ⟨hd', kvs', ep', eh', hv', _⟩ := ak6.plan
      obtain ⟨a, xs, dg', sa, ra⟩ := head_get eh' hv' ak.nd mk
      have lx : xs.length = ks.length := by rw [DpAll.len ra, List.length_map]
      refine ⟨_, rfl, pl, _, rfl, plan_heads ep', _, rfl, hd', _, rfl, dg', no_part ⟨_, rfl, _, rfl, cut_init sa fun H7 p7 s7 sq7 => ?_⟩⟩
      rw [lx] at sq7
      have r7 : DpAll K H7 (xs.take (ks.length - 1)) ((ks.take (ks.length - 1)).map fun b => .str (kd b)) := by
        rw [List.map_take]
        exact DpAll.take9 _ (DpAll.tk (.of s7) (kindsD_noLs ks) ra)
      have g7 := Go.of ak6.die s7
      have lt : (xs.take (ks.length - 1)).length = (ks.take (ks.length - 1)).length := by rw [List.length_take, List.length_take, lx]
      refine ⟨p7, rfl, ⟨_, sq7⟩, fun L nL => ?_⟩
      refine lcmG (walk_tup (xs := xs.take (ks.length - 1))) g7.2 nL (fun H' i y => OrNon K H' m tb own (j + 1) (cW j) (ks.take (ks.length - 1)) i y) (fun H' H'' i y e p => ?_) (by omega) (fun H' g => (g.tk g7.2).sqT sq7) (fun i x HB HC N' hi gB hy hN' => ?_) (fun HB ys gB eL ly hp => hN _ _ ⟨L, ys, rfl, g7.trans gB, eL, by omega, hp⟩)
      · rcases p with p | ⟨k, t, h1, h2⟩
        · exact .inl p
        · exact .inr ⟨k, t, h1, h2.tk e⟩
      · obtain ⟨rfl, hx⟩ := hy
        obtain ⟨d, hd', dx⟩ := DpAll.get (DpAll.tk (gB.tk g7.2) (kindsD_noLs _) r7) hx
        obtain ⟨k, ek, rfl⟩ := kinds_at hd'
        cases Dp.str_inv dx
        refine ⟨rfl, _, rfl, _, rfl, _, rfl, _, rfl, _, _, rfl, rfl, _, rfl, ?_⟩
        exact ⟨D, pl, oa, m, tb, own, hs, z - 1, k, rfl, by omega, (ak6.go g7).go gB, fun H' g => hN' _ _ g (.inl rfl), fun v' H' t g' gt => hN' _ _ g' (.inr ⟨k, t, ek, gt⟩)⟩
    rintro _ H7 ⟨L, ys, rfl, g67, eL, ly, hp⟩
    have g17 := g16.trans g67
    refine ⟨_, rfl, none_in (Good.words po) (by omega) eL hp ⟨_, rfl, iteT (qn _ g17)⟩ (fun hall => ⟨_, rfl, iteF ?_⟩)⟩
    obtain ⟨us, du, gu⟩ := gives_of ys (ks.take (ks.length - 1)) ly hall
    refine ⟨_, rfl, by show 2 ≤ sizeLine; decide, fun pC nC => ?_⟩
    generalize hX : upd H7 pC _ = H8
    have s8 : Same H7 H8 := by
      rw [← hX]
      exact same_upd nC
    have e8 := (congrFun hX pC).symm.trans upd_same
    clear hX
    refine ⟨_, rfl, L, ys, rfl, .inl ⟨.inl (.inl (s8 _ _ eL)), fun pE nE => ?_⟩⟩
    have sE := same_upd (o := .tup ys) nE
    refine cat_tup (Same.sqT sE (.inl (.inl e8))) (.inl (.inl upd_same)) (List.cons_ne_nil _ _) (by show 2 + ys.length < 16000; omega) fun G p9 s9 sq9 => ?_
    have sx := s8.trans (sE.trans s9)
    obtain ⟨t1, gt1⟩ := gl_call (K := K) (H := G) (m := m) (tb := tb) (own := own) true wd sq9 (DpAll.tk (.of sx) (noL_datas _) du) gu 1 lt2 (by rw [ft]; exact congrArg some eks)
    exact q _ _ t1 (g17.same sx) (gt1.up (by omega) (by have := cW_le j; show 1 + 1 * cW j ≤ cT j + 1; omega))
end
end FS
set_option Elab.async false
set_option linter.all false
set_option maxRecDepth 100000
set_option maxHeartbeats 4000000
namespace FS
open PySem PySem.Spec PyProof.Rows L2
section
variable {P : Program} {w : World} {K : PySem.W.Frag} {mg : Str → Option Value} {base : Heap}
abbrev N_law_call : List Str := ["_law_sack_here", "_law_plan", "_law_own", "_law_deep", "_law_name", "_law_given", "_law_sort"]
theorem sc_law_call : FnScope N_law_call ["_law_sack_here", "_law_plan", "_law_own", "_law_deep"] (defScope s_law_call) := ⟨rfl, rfl, rfl, by decide +kernel, rfl, by decide +kernel, by decide +kernel⟩
theorem ok_l_call {f : Addr} {fd : FuncData} (F : Fun K "_law_call" "_law_call" s_law_call f fd) (T : Nm K mg) {j k : Nat} (hk3 : 3 ≤ k) (hn4 : j ≤ 4) (Cl_pick : Cal P w K mg base 2 "_law_pick" ["_law_sack_here", "_law_items"] (spPick K)) (Cl_deed : Cal P w K mg base 3 "_law_deed" ["_law_sack_here", "_law_modes"] (spDeedK K)) (Cl_handed : Cal P w K mg base k "_law_handed" ["_law_sack_here", "_law_plan", "_law_own", "_law_deep", "_law_kind"] (spHandK K (j + 1))) : FnOk P w K mg base CX0 (k + 1) f fd ["_law_sack_here", "_law_plan", "_law_own", "_law_deep"] (spCallK K (j + 1)) := by
  have nd := sc_law_call.nd
  refine F.ok sc_law_call (fun vs H Q E h => ?_) (fun cdv A outer s H vs Q E hr h => ?_)
  · obtain ⟨D, pl, oa, m, tb, own, hs, z, rfl, hz, ak, q⟩ := h
    rfl
  · obtain ⟨D, pl, oa, m, tb, own, hs, z, rfl, hz, ak, q⟩ := h
    obtain ⟨hd, kvs, ep, eh, hv, hdD⟩ := ak.plan
    have po := ak.po
    have p3 := po.few
    refine ⟨_, (pss_cons (ps_set (i := 4) nd rfl (Or.inl rfl) (pe_own Cl_pick (hr.mono (by omega)) (by rfl) (pa_cons (pv 0) (pa_cons (pe_callB (call_sortedD rfl) (by rfl) T.b_sorted (by decide +kernel) (pa_cons (pe_dget (u1 hr) (pv 1) pe_str (fun _ _ => rfl)) pa_nil)) pa_nil))))
  (pss_cons (ps_setLc (i := 5) (own := [("_law_sort", 6)]) (g := gName 6) (tt := tYes) rfl nd rfl rfl (sw_true rfl rfl rfl (by decide +kernel)) (pi_tup (pe_dget (u1 hr) (pe_dget (u1 hr) (pv 1) pe_str (fun _ _ => rfl)) (pv 4) (fun _ _ => rfl))) (blkOk_by (own := [("_law_sort", 6)]) (N := N_law_call) (sc := defScope s_law_call) (by decide +kernel)) (fun _ _ _ _ _ => (pg_name (i := 6) nd rfl (Or.inl rfl))) (fun _ _ _ _ _ => pts_nil) (fun _ _ _ _ _ => (pe_own Cl_handed (hr.mono (by omega)) (by rfl) (pa_cons (pv 0) (pa_cons (pv 1) (pa_cons (pv 2) (pa_cons (pv 3) (pa_cons (pv 6) pa_nil))))))))
  (pss_one (ps_ret (pe_ifExp (pt_cmpR (op_inD (u65 hr)) pe_non (pv 5) (by rfl)) (pe_own Cl_deed (hr.mono (by omega)) (by rfl) (pa_cons (pv 0) (pa_cons (pe_dget (u1 hr) (pv 1) pe_str (fun _ _ => rfl)) pa_nil))) (pe_op op_catA (pe_tup (pa_cons pe_str (pa_cons (pv 4) pa_nil))) (pe_callTy call_tuple_of (by rfl) T.b_tuple (by decide +kernel) (pa_cons (pv 5) pa_nil)))))))), ?_⟩

    have lhs : hs.length ≤ 3 := ak.few
    refine seq_gen (P := fun σ' H6 => ∃ nm ks, σ' = [some (.ref D), some (.ref pl), some (.ref oa), some (.int z), some (.str nm), none, none] ∧ Go D H H6 ∧ (nm, ks) ∈ hs) (fun N hN => ?_) ?_
    · refine ⟨_, rfl, _, rfl, pl, _, rfl, plan_heads ep, hd, kvs, hs.map (·.1), rfl, .inl eh, hv.keys, by rw [List.length_map]; omega, fun ns p pm _ np => ?_⟩
      have pD := ak.die.ne np
      generalize hX : upd H p _ = H3
      have s3 : Same H H3 := by
        rw [← hX]
        exact same_upd np
      have e3 := (congrFun hX p).symm.trans upd_same
      clear hX
      have lns : ns.length = hs.length := by rw [pm.length_eq, List.length_map]
      refine ⟨D, p, _, (ak.same s3).die, rfl, .inl (.inl e3), pD, (fun z => ak.ne (List.eq_nil_of_length_eq_zero (by rw [← lns, List.map_eq_nil_iff.mp z]; rfl))), by rw [List.length_map]; omega, fun v H6 hv' g6 _ => ?_⟩
      obtain ⟨nm, hn, rfl⟩ := List.mem_map.mp hv'
      obtain ⟨⟨nm0, ks⟩, mk, rfl⟩ := List.mem_map.mp (pm.mem_iff.mp hn)
      exact hN _ _ ⟨nm0, ks, rfl, (Go.of ak.die s3).trans g6, mk⟩
    rintro _ H6 ⟨nm, ks, rfl, g16, mk⟩
    have ak6 := ak.go g16
    obtain ⟨wd, ft, k2⟩ := ak.hok _ _ mk
    refine seq_gen (P := fun σ' H7 => ∃ L ys, σ' = [some (.ref D), some (.ref pl), some (.ref oa), some (.int z), some (.str nm), some (.ref L), none] ∧ Go D H6 H7 ∧ H7 L = some (.lst ys) ∧ ys.length = ks.length ∧ ∀ (i : Nat) (y : V), ys[i]? = some y → OrNon K H7 m tb own (j + 2) (cW (j + 1)) ks i y) (fun N hN => ?_) ?_
    · obtain ⟨hd', kvs', ep', eh', hv', _⟩ := ak6.plan
      obtain ⟨a, xs, dg', sa, ra⟩ := head_get eh' hv' ak.nd mk
      have lx : xs.length = ks.length := by rw [DpAll.len ra, List.length_map]
      refine ⟨_, rfl, pl, _, rfl, plan_heads ep', _, rfl, hd', _, rfl, dg', a, rfl, ⟨_, sa⟩, fun L nL => ?_⟩
      refine lcmG (walk_tup (xs := xs)) g16.2 nL (fun H' i y => OrNon K H' m tb own (j + 2) (cW (j + 1)) ks i y) (fun H' H'' i y e p => ?_) (by omega) (fun H' g => (g.tk g16.2).sqT sa) (fun i x HB HC N' hi gB hy hN' => ?_) (fun HB ys gB eL ly hp => hN _ _ ⟨L, ys, rfl, gB, eL, by omega, hp⟩)
      · rcases p with p | ⟨k, t, h1, h2⟩
        · exact .inl p
        · exact .inr ⟨k, t, h1, h2.tk e⟩
      · obtain ⟨rfl, hx⟩ := hy
        obtain ⟨d, hd', dx⟩ := DpAll.get (DpAll.tk (gB.tk g16.2) (kindsD_noLs _) ra) hx
        obtain ⟨k, ek, rfl⟩ := kinds_at hd'
        cases Dp.str_inv dx
        refine ⟨rfl, _, rfl, _, rfl, _, rfl, _, rfl, _, rfl, ?_⟩
        exact ⟨D, pl, oa, m, tb, own, hs, z, k, rfl, hz, ak6.go gB, fun H' g => hN' _ _ g (.inl rfl), fun v' H' t g' gt => hN' _ _ g' (.inr ⟨k, t, ek, gt⟩)⟩
    rintro _ H7 ⟨L, ys, rfl, g67, eL, ly, hp⟩
    have g17 := g16.trans g67
    obtain ⟨hd', kvs', ep', eh', hv', _⟩ := (ak.go g17).plan
    obtain ⟨mk', rfl⟩ : ∃ k : Nat, m = (k : Int) := ⟨m.toNat, by have := ak.m1; omega⟩
    refine ⟨_, rfl, none_in (Good.words po) (by omega) eL hp ⟨_, rfl, iteT ?_⟩ (fun hall => ⟨_, rfl, iteF ?_⟩)⟩
    · refine ⟨_, rfl, _, rfl, pl, _, rfl, plan_modes ep', D, mk', rfl, g17.2, by have := ak.m1; omega, by have := ak.m3; omega, fun v H' g gt => ?_⟩
      obtain ⟨t, gt⟩ := gt tb own
      exact q _ _ t (g17.trans g) (gt.up (dT_pos _) (cT_pos _))
    obtain ⟨us, du, gu⟩ := gives_of ys ks ly hall
    refine ⟨_, rfl, by show 2 ≤ sizeLine; decide, fun pC nC => ?_⟩
    generalize hX : upd H7 pC _ = H8
    have s8 : Same H7 H8 := by
      rw [← hX]
      exact same_upd nC
    have e8 := (congrFun hX pC).symm.trans upd_same
    clear hX
    refine ⟨_, rfl, L, ys, rfl, .inl ⟨.inl (.inl (s8 _ _ eL)), fun pE nE => ?_⟩⟩
    have sE := same_upd (o := .tup ys) nE
    refine cat_tup (Same.sqT sE (.inl (.inl e8))) (.inl (.inl upd_same)) (List.cons_ne_nil _ _) (by show 2 + ys.length < 16000; omega) fun G p9 s9 sq9 => ?_
    have sx := s8.trans (sE.trans s9)
    obtain ⟨t1, gt1⟩ := gl_call (K := K) (H := G) (m := (mk' : Int)) (tb := tb) (own := own) false wd sq9 (DpAll.tk (.of sx) (noL_datas _) du) gu 2 k2 (by rw [ft]; rfl)
    exact q _ _ t1 (g17.same sx) (gt1.up (by show j + 2 + 1 ≤ j + 3; omega) (by show 1 + 2 * (cT j + 1) ≤ 3 + 2 * cT j; omega))
end
end FS
set_option Elab.async false
set_option linter.all false
set_option maxRecDepth 100000
set_option maxHeartbeats 4000000
namespace FS
open PySem PySem.Spec PyProof.Rows L2
section
variable {P : Program} {w : World} {K : PySem.W.Frag} {mg : Str → Option Value} {base : Heap}
abbrev N_law_term : List Str := ["_law_sack_here", "_law_plan", "_law_own", "_law_deep", "_law_blocks", "_law_words", "_law_word", "_law_wrap", "_law_name", "_law_sort"]
theorem sc_law_term : FnScope N_law_term ["_law_sack_here", "_law_plan", "_law_own", "_law_deep"] (defScope s_law_term) := ⟨rfl, rfl, rfl, by decide +kernel, rfl, by decide +kernel, by decide +kernel⟩
theorem ok_l_term {f : Addr} {fd : FuncData} (F : Fun K "_law_term" "_law_term" s_law_term f fd) (T : Nm K mg) {n k : Nat} (hk3 : 3 ≤ k) (Cl_pick : Cal P w K mg base 2 "_law_pick" ["_law_sack_here", "_law_items"] (spPick K)) (Cl_deed : Cal P w K mg base 3 "_law_deed" ["_law_sack_here", "_law_modes"] (spDeedK K)) (Cl_handed : Cal P w K mg base k "_law_handed" ["_law_sack_here", "_law_plan", "_law_own", "_law_deep", "_law_kind"] (spHandR K n)) (Cl_call : Cal P w K mg base k "_law_call" ["_law_sack_here", "_law_plan", "_law_own", "_law_deep"] (spCallQ K n)) (Cl_term : Cal P w K mg base k "_law_term" ["_law_sack_here", "_law_plan", "_law_own", "_law_deep"] (spTermQ K n)) : FnOk P w K mg base CX0 (k + 1) f fd ["_law_sack_here", "_law_plan", "_law_own", "_law_deep"] (spTermK K n) := by
  have nd := sc_law_term.nd
  refine F.ok sc_law_term (fun vs H Q E h => ?_) (fun cdv A outer s H vs Q E hr h => ?_)
  · obtain ⟨D, pl, oa, m, tb, own, hs, z, rfl, hz, ak, q⟩ := h
    rfl
  · obtain ⟨D, pl, oa, m, tb, own, hs, z, rfl, hz, ak, q⟩ := h
    obtain ⟨hd, kvs, ep, eh, hv, hdD⟩ := ak.plan
    obtain ⟨vg, hg, dg⟩ := ak.otab
    have po := ak.po
    have p3 := po.few
    refine ⟨_, (pss_cons (ps_setLc (i := 4) (own := [("_law_name", 8), ("_law_sort", 9)]) (g := gTup K 2 (gCons (gName 8) (gCons (gName 9) gNil))) rfl nd rfl rfl (sw_true rfl rfl rfl (by decide +kernel)) (pi_list (pv 2)) (blkOk_by (own := [("_law_name", 8), ("_law_sort", 9)]) (N := N_law_term) (sc := defScope s_law_term) (by decide +kernel)) (fun _ _ _ _ _ => (pg_tup rfl (pgs_cons (pg_name (i := 8) nd rfl (Or.inl rfl)) (pgs_cons (pg_name (i := 9) nd rfl (Or.inl rfl)) pgs_nil)))) (fun _ _ _ _ _ => pts_one (pt_cmpR op_eq (pv 9) pe_str (nomark _))) (fun _ _ _ _ _ => (pv 8)))
  (pss_cons (ps_set (i := 5) nd rfl (Or.inl rfl) (pe_op op_cat (pe_lst (pa_cons pe_str (pa_cons pe_str pa_nil))) (pe_op op_rep (pe_lst (pa_cons pe_str (pa_cons pe_str (pa_cons pe_str pa_nil)))) (pe_callTy call_int1 (by rfl) T.b_int (by decide +kernel) (pa_cons (pe_cmpR (op_neD hr.units) (pv 4) (pe_lst pa_nil) (nomark _)) pa_nil)))))
  (pss_cons (ps_if (pt_cmpR op_gt (pv 3) pe_int (nomark _))
  (pss_one (ps_set (i := 5) nd rfl (Or.inl rfl) (pe_op op_cat (pv 5) (pe_lst (pa_cons pe_str (pa_cons pe_str (pa_cons pe_str (pa_cons pe_str (pa_cons pe_str (pa_cons pe_str (pa_cons pe_str pa_nil)))))))))))
  pss_nil)
  (pss_cons (ps_set (i := 6) nd rfl (Or.inl rfl) (pe_own Cl_pick (hr.mono (by omega)) (by rfl) (pa_cons (pv 0) (pa_cons (pv 5) pa_nil))))
  (pss_cons (ps_if (pt_cmpR op_eq (pv 6) pe_str (nomark _))
  (pss_one (ps_ret (pe_tup (pa_cons pe_str (pa_cons (pe_own Cl_pick (hr.mono (by omega)) (by rfl) (pa_cons (pv 0) (pa_cons (pv 4) pa_nil))) pa_nil)))))
  pss_nil)
  (pss_cons (ps_if (PW.pt (pw_or (pt_cmpR op_eq (pv 6) pe_str (nomark _)) (pw_or1 (pt_cmpR op_eq (pv 6) pe_str (nomark _)))))
  (pss_one (ps_ret (pe_tup (pa_cons (pv 6) (pa_cons (pe_own Cl_term (hr.mono (by omega)) (by rfl) (pa_cons (pv 0) (pa_cons (pv 1) (pa_cons (pv 2) (pa_cons (pe_op op_sub (pv 3) pe_int) pa_nil))))) (pa_cons (pe_own Cl_term (hr.mono (by omega)) (by rfl) (pa_cons (pv 0) (pa_cons (pv 1) (pa_cons (pv 2) (pa_cons (pe_op op_sub (pv 3) pe_int) pa_nil))))) pa_nil))))))
  pss_nil)
  (pss_cons (ps_if (pt_cmpR op_eq (pv 6) pe_str (nomark _))
  (pss_one (ps_ret (pe_own Cl_call (hr.mono (by omega)) (by rfl) (pa_cons (pv 0) (pa_cons (pv 1) (pa_cons (pv 2) (pa_cons (pv 3) pa_nil)))))))
  pss_nil)
  (pss_cons (ps_if (pt_cmpR op_eq (pv 6) pe_str (nomark _))
  (pss_cons (ps_set (i := 7) nd rfl (Or.inl rfl) (pe_own Cl_handed (hr.mono (by omega)) (by rfl) (pa_cons (pv 0) (pa_cons (pv 1) (pa_cons (pv 2) (pa_cons (pv 3) (pa_cons pe_str pa_nil)))))))
  (pss_one (ps_ret (pe_ifExp (pt_cmpR op_isN (pv 7) pe_non (nomark _)) (pe_own Cl_deed (hr.mono (by omega)) (by rfl) (pa_cons (pv 0) (pa_cons (pe_dget (u1 hr) (pv 1) pe_str (fun _ _ => rfl)) pa_nil))) (pe_tup (pa_cons pe_str (pa_cons (pv 7) (pa_cons (pe_own Cl_term (hr.mono (by omega)) (by rfl) (pa_cons (pv 0) (pa_cons (pv 1) (pa_cons (pv 2) (pa_cons (pe_op op_sub (pv 3) pe_int) pa_nil))))) pa_nil))))))))
  pss_nil)
  (pss_one (ps_ret (pe_ifExp (pt_cmpR op_eq (pv 6) pe_str (nomark _)) (pe_tup (pa_cons pe_str pa_nil)) (pe_own Cl_deed (hr.mono (by omega)) (by rfl) (pa_cons (pv 0) (pa_cons (pe_dget (u1 hr) (pv 1) pe_str (fun _ _ => rfl)) pa_nil)))))))))))))), ?_⟩

    refine names_seq (own := own) (k := false) (fun _ _ => rfl) (fun _ _ => rfl) (fun _ _ => rfl) rfl hg dg (by omega) rfl fun H1 pb s1 nb eb => ?_
    have pbD := ak.die.ne nb
    have ak1 := ak.same s1
    have l3 := names_few po false
    clear hg dg nb
    refine seq_gen (P := fun σ' H2 => ∃ (pw : Addr) (ws : List Str), σ' = [some (.ref D), some (.ref pl), some (.ref oa), some (.int z), some (.ref pb), some (.ref pw), none, none, none, none] ∧ Same H1 H2 ∧ pw ≠ D ∧ H2 pw = some (.lst (ws.map V.str)) ∧ ws ≠ [] ∧ ws.length ≤ 20 ∧ ∀ w ∈ ws, WordO own z w) (fun N hN => ?_) ?_
    · refine ⟨by show 2 ≤ sizeLine; decide, fun p1 n1 => ?_⟩
      generalize hX : upd H1 p1 _ = A1
      have t1 : Same H1 A1 := by
        rw [← hX]
        exact same_upd n1
      have e1 := (congrFun hX p1).symm.trans upd_same
      clear hX
      refine ⟨by show 3 ≤ sizeLine; decide, fun p2 n2 => ?_⟩
      generalize hX : upd A1 p2 _ = A2
      have t2 : Same A1 A2 := by
        rw [← hX]
        exact same_upd n2
      have e2 := (congrFun hX p2).symm.trans upd_same
      clear hX
      refine ⟨_, rfl, Nat.zero_le _, fun p3' n3 => ?_⟩
      generalize hX : upd A2 p3' _ = A3
      have t3 : Same A2 A3 := by
        rw [← hX]
        exact same_upd n3
      have e3 := (congrFun hX p3').symm.trans upd_same
      clear hX
      refine ne_nil (t3 _ _ (t2 _ _ (t1 _ _ eb))) e3 (fun z hz => names_word po hz) (.inr ⟨_, rfl, ?_⟩)
      refine ⟨p2, _, _, rfl, rfl, t3 _ _ e2, by cases (namesOf own false).isEmpty <;> decide, by cases (namesOf own false).isEmpty <;> decide, by cases (namesOf own false).isEmpty <;> decide, fun p4 n4 => ?_⟩
      generalize hX : upd A3 p4 _ = A4
      have t4 : Same A3 A4 := by
        rw [← hX]
        exact same_upd n4
      have e4 := (congrFun hX p4).symm.trans upd_same
      clear hX
      obtain ⟨us, eu, hu, lu⟩ : ∃ us : List Str, (List.replicate (Int.toNat (if (!(namesOf own false).isEmpty) = true then 1 else 0)) [V.str "run", V.str "run", V.str "run"]).flatten = us.map V.str ∧ (∀ w ∈ us, w = "run" ∧ namesOf own false ≠ []) ∧ us.length ≤ 3 := by
        cases e : namesOf own false with
        | nil => exact ⟨[], rfl, (fun _ h => nomatch h), by decide⟩
        | cons a b =>
          refine ⟨["run", "run", "run"], rfl, fun w hw => ⟨?_, fun z => nomatch z⟩, by decide⟩
          simp only [List.mem_cons, List.not_mem_nil, or_false] at hw
          rcases hw with rfl | rfl | rfl <;> rfl
      rw [eu] at e4
      refine ⟨p1, p4, _, _, rfl, rfl, t4 _ _ (t3 _ _ (t2 _ _ e1)), e4, by rw [List.length_map, sizeLine_eq]; show 2 + us.length ≤ _; omega, fun p5 n5 => ?_⟩
      have s15 := t1.trans (t2.trans (t3.trans t4))
      exact hN _ _ ⟨p5, "do" :: "do" :: us, rfl, s15.trans (same_upd n5), (ak1.same s15).die.ne n5, upd_same, (fun z => nomatch z), by show us.length + 1 + 1 ≤ 20; omega, fun w hw => by
        rcases List.mem_cons.mp hw with rfl | hw
        · exact .inl rfl
        rcases List.mem_cons.mp hw with rfl | hw
        · exact .inl rfl
        exact .inr (.inl (hu w hw))⟩
    rintro _ H2 ⟨pw, ws, rfl, s2, pwD, ew, wne, wl, hw⟩
    have ak2 := ak1.same s2
    have eb2 := s2 _ _ eb
    have s12 := s1.trans s2
    clear ak1 eb
    refine seq_gen (P := fun σ' H3 => ∃ (pw : Addr) (ws : List Str), σ' = [some (.ref D), some (.ref pl), some (.ref oa), some (.int z), some (.ref pb), some (.ref pw), none, none, none, none] ∧ Same H2 H3 ∧ pw ≠ D ∧ H3 pw = some (.lst (ws.map V.str)) ∧ ws ≠ [] ∧ ws.length ≤ 30 ∧ ∀ w ∈ ws, WordO own z w) (fun N hN => ?_) ?_
    · refine ⟨_, rfl, _, _, rfl, rfl, _, rfl, ?_⟩
      by_cases z0 : z > 0
      · rw [decide_eq_true z0]
        refine iteT ⟨_, rfl, by show 7 ≤ sizeLine; decide, fun p1 n1 => ?_⟩
        generalize hX : upd H2 p1 _ = A1
        have t1 : Same H2 A1 := by
          rw [← hX]
          exact same_upd n1
        have e1 := (congrFun hX p1).symm.trans upd_same
        clear hX
        refine ⟨pw, p1, _, _, rfl, rfl, t1 _ _ ew, e1, by rw [List.length_map, sizeLine_eq]; show ws.length + 7 ≤ _; omega, fun p5 n5 => ?_⟩
        refine hN _ _ ⟨p5, ws ++ (["seq", "seq", "or", "call", "call", "wrap", "none"] : List Str), rfl, t1.trans (same_upd n5), (ak2.same t1).die.ne n5, by rw [upd_same, List.map_append]; rfl, (fun z => wne (List.append_eq_nil_iff.mp z).1), by rw [List.length_append]; show ws.length + 7 ≤ 30; omega, fun w hw' => ?_⟩
        rcases List.mem_append.mp hw' with h | h
        · exact hw w h
        · exact .inr (.inr ⟨by omega, h⟩)
      · rw [decide_eq_false z0]
        exact iteF (hN _ _ ⟨pw, ws, rfl, .refl _, pwD, ew, wne, by omega, hw⟩)
    clear ew wne wl hw pwD
    rintro _ H3 ⟨pw, ws, rfl, s3, pwD, ew, wne, wl, hw⟩
    have ak3 := ak2.same s3
    have eb3 := s3 _ _ eb2
    have s13 := s12.trans s3
    clear ak2 eb2 s12
    refine seq_gen (P := fun σ' H4 => ∃ w : Str, σ' = [some (.ref D), some (.ref pl), some (.ref oa), some (.int z), some (.ref pb), some (.ref pw), some (.str w), none, none, none] ∧ Go D H3 H4 ∧ WordO own z w) (fun N hN => ⟨_, rfl, _, rfl, D, pw, _, ak3.die, rfl, .inl (.inl ew), pwD, (fun z => wne (List.map_eq_nil_iff.mp z)), by rw [List.length_map]; omega, fun v H4 hv g4 _ => by
      obtain ⟨w, hw', rfl⟩ := List.mem_map.mp hv
      exact hN _ _ ⟨w, rfl, g4, hw w hw'⟩⟩) ?_
    rintro _ H4 ⟨w, rfl, g34, ww⟩
    have g4 := (Go.of ak.die s13).trans g34
    have ak4 := ak.go g4
    have eb4 := g34.1 _ _ pbD eb3
    clear ak3 eb3 ew s13 g34 hw wne wl
    have tst : ∀ (a : Str) (Q' : Bool → Hp → Prop) (H' : Hp), (w = a → Q' true H') → (w ≠ a → Q' false H') → Q' (decide (V.str w = V.str a)) H' := fun a Q' H' y n => by
      by_cases e : w = a
      · rw [decide_eq_true (congrArg V.str e)]
        exact y e
      · rw [decide_eq_false (fun z => e (V.str.inj z))]
        exact n e
    refine ifr_gen (fun H' => H4 = H' ∧ w = "run") (fun H' => H4 = H' ∧ w ≠ "run") (fun Q' y0 n0 => ⟨_, rfl, rfl, _, rfl, tst _ _ _ (fun e => y0 _ ⟨rfl, e⟩) (fun e => n0 _ ⟨rfl, e⟩)⟩) (fun H5 h5 => ?_) (fun H5 h5 => ?_)
    · obtain ⟨rfl, rfl⟩ := h5
      have nn : namesOf own false ≠ [] := ww.run
      refine ⟨_, rfl, _, rfl, D, pb, _, g4.2, rfl, .inl (.inl eb4), pbD, (fun z => nn (List.map_eq_nil_iff.mp z)), by rw [List.length_map]; omega, fun v H5 hv g5 _ => ?_⟩
      obtain ⟨x, hx, rfl⟩ := List.mem_map.mp hv
      refine ⟨by show 2 ≤ sizeLine; decide, fun p5 n5 => ?_⟩
      obtain ⟨t, gt⟩ := gl_leaf (K := K) (H := upd H5 p5 (.tup [V.str "run", V.str x])) (m := m) (tb := tb) (k := false) (.inl (.inl upd_same)) (names_ok hx)
      exact q _ _ t ((g4.trans g5).same (same_upd n5)) (gt.up (dT_pos _) (cT_pos _))
    obtain ⟨rfl, nrun⟩ := h5
    refine ifr_gen (fun H' => H4 = H' ∧ (w = "seq" ∨ w = "or")) (fun H' => H4 = H' ∧ w ≠ "seq" ∧ w ≠ "or") (fun Q' y0 n0 => ⟨_, rfl, rfl, _, rfl, tst "seq" (fun b H' => if b = true then Q' true H' else _) H4 (fun e => iteT (y0 _ ⟨rfl, .inl e⟩)) (fun e => iteF ⟨_, rfl, rfl, _, rfl, tst _ _ _ (fun e2 => y0 _ ⟨rfl, .inr e2⟩) (fun e2 => n0 _ ⟨rfl, e, e2⟩)⟩)⟩) (fun H5 h5 => ?_) (fun H5 h5 => ?_)
    · obtain ⟨rfl, so⟩ := h5
      obtain ⟨z0, _⟩ := ww.big (by rcases so with rfl | rfl <;> decide +kernel) nrun
      obtain ⟨j, rfl⟩ : ∃ j, n = j + 1 := ⟨n - 1, by omega⟩
      refine ⟨_, rfl, _, rfl, _, rfl, _, rfl, _, rfl, _, _, rfl, rfl, D, pl, oa, m, tb, own, hs, z - 1, rfl, by omega, ak4, fun v1 H5 u1 g5 q1 => ?_⟩
      have ak5 := ak4.go g5
      refine ⟨_, rfl, _, rfl, _, rfl, _, rfl, _, _, rfl, rfl, D, pl, oa, m, tb, own, hs, z - 1, rfl, by omega, ak5, fun v2 H6 u2 g6 q2 => ?_⟩
      refine ⟨by show 3 ≤ sizeLine; decide, fun p5 n5 => ?_⟩
      have s7 := same_upd (o := .tup [V.str w, v1, v2]) n5
      obtain ⟨bo, eb⟩ : ∃ b : Bool, w = (if b then Str.ofString "or" else Str.ofString "seq") := by
        rcases so with rfl | rfl
        · exact ⟨false, rfl⟩
        · exact ⟨true, rfl⟩
      have sq7 : SqT K (upd H6 p5 (.tup [V.str w, v1, v2])) p5 (V.str (if bo then "or" else "seq") :: [v1, v2]) := by
        rw [← eb]
        exact .inl (.inl upd_same)
      have q1' := q1.tk ((g6.tk ak5.die).trans (.of s7))
      have q2' := q2.tk (TK.of s7)
      obtain ⟨t, gt⟩ := gl_seq (K := K) (m := m) (tb := tb) (own := own) (us := [u1, u2]) (d := dT j) (c := cT j) bo (fun _ => Nat.succ_pos _) sq7 (.cons q1'.dp (.cons q2'.dp .nil)) (fun u hu => by
        rcases List.mem_cons.mp hu with rfl | hu
        · exact ⟨q1.good, q1.kind, q1.deep, q1.few⟩
        · rw [List.mem_singleton.mp hu]
          exact ⟨q2.good, q2.kind, q2.deep, q2.few⟩) 2 (Nat.le_refl _)
      exact q _ _ t (((g4.trans g5).trans g6).same s7) (gt.up (by have := dT_le j; show dT j + 1 ≤ j + 3; omega) (by show 1 + 2 * cT j ≤ 3 + 2 * cT j; omega))
    obtain ⟨rfl, nseq, nor⟩ := h5
    refine ifr_gen (fun H' => H4 = H' ∧ w = "call") (fun H' => H4 = H' ∧ w ≠ "call") (fun Q' y0 n0 => ⟨_, rfl, rfl, _, rfl, tst _ _ _ (fun e => y0 _ ⟨rfl, e⟩) (fun e => n0 _ ⟨rfl, e⟩)⟩) (fun H5 h5 => ?_) (fun H5 h5 => ?_)
    · obtain ⟨rfl, rfl⟩ := h5
      obtain ⟨z0, _⟩ := ww.big (by decide +kernel) nrun
      obtain ⟨j, rfl⟩ : ∃ j, n = j + 1 := ⟨n - 1, by omega⟩
      exact ⟨_, rfl, _, rfl, _, rfl, _, rfl, D, pl, oa, m, tb, own, hs, z, rfl, hz, ak4, fun v H' t g gt => q v H' t (g4.trans g) gt⟩
    obtain ⟨rfl, ncall⟩ := h5
    obtain ⟨hd', kvs', ep', eh', hv', _⟩ := ak4.plan
    obtain ⟨mk', rfl⟩ : ∃ k : Nat, m = (k : Int) := ⟨m.toNat, by have := ak.m1; omega⟩
    have m1' : 1 ≤ mk' := by have := ak.m1; omega
    have m3' : mk' ≤ 3 := by have := ak.m3; omega
    refine ifr_gen (fun H' => H4 = H' ∧ w = "wrap") (fun H' => H4 = H') (fun Q' y0 n0 => ⟨_, rfl, rfl, _, rfl, tst _ _ _ (fun e => y0 _ ⟨rfl, e⟩) (fun e => n0 _ rfl)⟩) (fun H5 h5 => ?_) (fun H5 h5 => ?_)
    · obtain ⟨rfl, rfl⟩ := h5
      obtain ⟨z0, _⟩ := ww.big (by decide +kernel) nrun
      obtain ⟨j, rfl⟩ : ∃ j, n = j + 1 := ⟨n - 1, by omega⟩
      refine seq_gen (P := fun σ' H5 => ∃ v, σ' = [some (.ref D), some (.ref pl), some (.ref oa), some (.int z), some (.ref pb), some (.ref pw), some (.str "wrap"), some v, none, none] ∧ Go D H4 H5 ∧ (v = .non ∨ ∃ t, GotL K H5 (mk' : Int) tb own (j + 2) (cW (j + 1)) true v t)) (fun N hN => ?_) ?_
      · exact ⟨_, rfl, _, rfl, _, rfl, _, rfl, D, pl, oa, _, tb, own, hs, z, true, rfl, hz, ak4, fun H' g => hN _ _ ⟨_, rfl, g, .inl rfl⟩, fun v H' t g gt => hN _ _ ⟨v, rfl, g, .inr ⟨t, gt⟩⟩⟩
      rintro _ H5 ⟨v, rfl, g5, hv5⟩
      have g45 := g4.trans g5
      have ak5 := ak4.go g5
      obtain ⟨hd5, kvs5, ep5, eh5, hv5', _⟩ := ak5.plan
      rcases hv5 with rfl | ⟨t1, q1⟩
      · refine ⟨_, rfl, rfl, _, rfl, iteT ?_⟩
        refine ⟨_, rfl, _, rfl, pl, _, rfl, plan_modes ep5, D, mk', rfl, g45.2, m1', m3', fun v H' g gt => ?_⟩
        obtain ⟨t, gt⟩ := gt tb own
        exact q _ _ t (g45.trans g) (gt.up (dT_pos _) (cT_pos _))
      · refine ⟨_, rfl, rfl, _, rfl, ?_⟩
        rw [decide_eq_false q1.ne_non]
        refine iteF ⟨_, rfl, _, rfl, _, rfl, _, rfl, _, rfl, _, _, rfl, rfl, D, pl, oa, _, tb, own, hs, z - 1, rfl, by omega, ak5, fun v2 H6 u2 g6 q2 => ?_⟩
        refine ⟨by show 3 ≤ sizeLine; decide, fun p5 n5 => ?_⟩
        have s7 := same_upd (o := .tup [V.str "wrap", v, v2]) n5
        obtain ⟨t, gt⟩ := gl_wrap (K := K) (H := upd H6 p5 (.tup [V.str "wrap", v, v2])) (.inl (.inl upd_same)) (q1.tk ((g6.tk ak5.die).trans (.of s7))) (q2.tk (.of s7))
        exact q _ _ t ((g45.trans g6).same s7) (gt.up (by have := dT_le j; show max (j + 2) (dT j) + 1 ≤ j + 3; omega) (by show 1 + (cT j + 1) + cT j ≤ 3 + 2 * cT j; omega))
    subst h5
    refine ⟨_, rfl, rfl, _, rfl, tst "none" (fun b H' => if b = true then _ else _) H4 (fun e => iteT ?_) (fun e => iteF ?_)⟩
    · refine ⟨by show 1 ≤ sizeLine; decide, fun p5 n5 => ?_⟩
      obtain ⟨t, gt⟩ := gl_seq (K := K) (H := upd H4 p5 (.tup [V.str "seq"])) (m := (mk' : Int)) (tb := tb) (own := own) (us := []) (vs := []) (d := 0) (c := 0) false (fun z => nomatch z) (.inl (.inl upd_same)) .nil (fun _ h => nomatch h) 0 (Nat.le_refl _)
      exact q _ _ t (g4.same (same_upd n5)) (gt.up (dT_pos _) (by have := cT_pos n; omega))
    · refine ⟨_, rfl, _, rfl, pl, _, rfl, plan_modes ep', D, mk', rfl, g4.2, m1', m3', fun v H' g gt => ?_⟩
      obtain ⟨t, gt⟩ := gt tb own
      exact q _ _ t (g4.trans g) (gt.up (dT_pos _) (cT_pos _))
end
end FS
set_option Elab.async false
set_option linter.all false
set_option maxRecDepth 100000
set_option maxHeartbeats 4000000
/-! the drawers that call each other, by levels -/
namespace FS
open PySem PySem.Spec PyProof.Rows L2
section
variable {P : Program} {w : World} {K : PySem.W.Frag} {mg : Str → Option Value} {base : Heap}
abbrev pkT : List Str := ["_law_sack_here", "_law_plan", "_law_own", "_law_deep"]
abbrev pkH : List Str := ["_law_sack_here", "_law_plan", "_law_own", "_law_deep", "_law_kind"]
theorem drawersK {f1 f2 f3 : Addr} {fd1 fd2 fd3 : FuncData} (F1 : Fun K "_law_term" "_law_term" s_law_term f1 fd1) (F2 : Fun K "_law_handed" "_law_handed" s_law_handed f2 fd2) (F3 : Fun K "_law_call" "_law_call" s_law_call f3 fd3) (T : Nm K mg)
    (m1 : mg "_law_term" = some (.ref f1)) (m2 : mg "_law_handed" = some (.ref f2)) (m3 : mg "_law_call" = some (.ref f3)) (k1 : PySem.W.keepIn K (.ref f1) = true) (k2 : PySem.W.keepIn K (.ref f2) = true) (k3 : PySem.W.keepIn K (.ref f3) = true) (b1 : Binds K fd1 pkT []) (b2 : Binds K fd2 pkH []) (b3 : Binds K fd3 pkT [])
    (Cd : Cal P w K mg base 1 "_law_deal" ["_law_sack_here", "_law_size"] spCast) (Cp : Cal P w K mg base 2 "_law_pick" ["_law_sack_here", "_law_items"] (spPick K)) (Ce : Cal P w K mg base 3 "_law_deed" ["_law_sack_here", "_law_modes"] (spDeedK K)) :
    ∀ n, n ≤ 4 → Cal P w K mg base (4 + 4 * n) "_law_term" pkT (spTermK K n) ∧ Cal P w K mg base (5 + 4 * n) "_law_handed" pkH (spHandK K n)
  | 0, _ => by
    have A1 : Cal P w K mg base 3 "_law_term" pkT spNeverL := Cal.up (j := 1) ⟨f1, fd1, F1.ok sc_law_term (fun vs H Q E h => h.elim) (fun cdv A outer s H vs Q E hr h => h.elim), m1, k1, b1⟩ (by omega)
    have A2 : Cal P w K mg base 3 "_law_handed" pkH spNeverL := Cal.up (j := 1) ⟨f2, fd2, F2.ok sc_law_handed (fun vs H Q E h => h.elim) (fun cdv A outer s H vs Q E hr h => h.elim), m2, k2, b2⟩ (by omega)
    have A3 : Cal P w K mg base 3 "_law_call" pkT spNeverL := Cal.up (j := 1) ⟨f3, fd3, F3.ok sc_law_call (fun vs H Q E h => h.elim) (fun cdv A outer s H vs Q E hr h => h.elim), m3, k3, b3⟩ (by omega)
    have B1 : Cal P w K mg base 4 "_law_term" pkT (spTermK K 0) := ⟨f1, fd1, ok_l_term (k := 3) (n := 0) F1 T (by omega) Cp Ce A2 A3 A1, m1, k1, b1⟩
    exact ⟨B1, ⟨f2, fd2, ok_l_handed (k := 4) (n := 0) F2 T (by omega) (by omega) Cd Cp B1 (A2.up (by omega)), m2, k2, b2⟩⟩
  | n + 1, hn => by
    obtain ⟨A1, A2⟩ := drawersK F1 F2 F3 T m1 m2 m3 k1 k2 k3 b1 b2 b3 Cd Cp Ce n (by omega)
    have B2 : Cal P w K mg base (6 + 4 * n) "_law_handed" pkH (spHandK K (n + 1)) := ⟨f2, fd2, (ok_l_handed (k := 5 + 4 * n) (n := n + 1) F2 T (by omega) (by omega) Cd Cp (A1.up (by omega)) A2).mono (by omega), m2, k2, b2⟩
    have B3 : Cal P w K mg base (7 + 4 * n) "_law_call" pkT (spCallK K (n + 1)) := ⟨f3, fd3, (ok_l_call (k := 6 + 4 * n) (j := n) F3 T (by omega) (by omega) Cp Ce B2).mono (by omega), m3, k3, b3⟩
    have B1 : Cal P w K mg base (4 + 4 * (n + 1)) "_law_term" pkT (spTermK K (n + 1)) := ⟨f1, fd1, (ok_l_term (k := 7 + 4 * n) (n := n + 1) F1 T (by omega) Cp Ce (B2.up (by omega)) B3 (A1.up (by omega))).mono (by omega), m1, k1, b1⟩
    exact ⟨B1, B2.up (by omega)⟩
end
end FS
set_option Elab.async false
set_option linter.all false
set_option maxRecDepth 100000
set_option maxHeartbeats 4000000
/-! list(zip(list, tuple)) -/
namespace FS
open PySem PySem.Spec PyProof.Rows L2
section
variable {prog : Program} {w : World} {A : Around} {E : Value → Shared → Prop} {s : Shared} {z TI TO T i1 i2 : Addr} {fp1 fp2 : List Addr} {n1 n2 i : Nat} {P1 P2 : Nat → Value → Prop} {St1 St2 : Nat → Heap → Prop} {f : Bool} {oT : Obj}
theorem zipH_item {Q : Value → Shared → Prop} (S : ZipSep2 z TI TO i1 i2 fp1 fp2) (D1 : Draws prog w A i1 fp1 n1 P1 St1) (D2 : Draws prog w A i2 fp2 n2 P2 St2)
    (hz : IsZipHeld s.heap z TI TO T f) (hT : s.heap.get? T = some oT) (hTI : IsTupOf2 s.heap TI (.ref i1) (.ref i2)) (st1 : St1 i s.heap) (st2 : St2 i s.heap) (hlt1 : i < n1) (hlt2 : i < n2)
    (hQ : ∀ x1 x2 h' tk, P1 i x1 → P2 i x2 → IsZipHeld h' z TI TO T true → St1 (i + 1) h' → St2 (i + 1) h' → IsTupOf2 h' s.heap.objs.size x1 x2 → h'.objs.size = s.heap.objs.size + 1 →
      (∀ c o, c ≠ z → c ≠ i1 → c ≠ i2 → s.heap.get? c = some o → h'.get? c = some o) → Q (.ref s.heap.objs.size) { s with heap := h', toks := tk }) :
    wpAny (model prog w) A (Builtin.«zip.__next__» ⟨[.ref z], []⟩) (fun fin s' => ∃ v, fin = .done (.ret v) ∧ Q v s') E s := by
  obtain ⟨hp, g, d, tk0, os⟩ := s
  show wpAny _ _ (field (.ref z) 2 >>= _) _ _ _
  refine wpAny_bind (wpAny_field hz rfl (x := .bool false) rfl ?_)
  show wpAny _ _ (field (.ref z) 3 >>= _) _ _ _
  refine wpAny_bind (wpAny_field hz rfl (x := .ref TI) rfl ?_)
  refine wpAny_bind (wpAny_seqItems hTI rfl ?_)
  show wpAny _ _ (Builtin.SmallTypes.ownedTupleIsFree (.ref z) >>= _) _ _ _
  refine wpAny_bind (wpAny_tupleHeld_zip hz hT fun h₁ hz₁ hs₁ => ?_)
  replace hs₁ : Heap.SameBut z hp h₁ := hs₁
  simp only [Bool.false_eq_true, if_false]
  refine wpAny_bind ?_
  rw [← Array.forIn_toList]
  simp only [List.forIn_cons, List.forIn_nil]
  refine wpAny_bind (wpAny_bind (wpAny_holding ?_))
  show wpAny _ _ (Builtin.SmallTypes.nextOf (.ref i1) >>= _) _ _ ⟨h₁, g, d, tk0, os⟩
  refine wpAny_bind (D1.item i _ _ _ hlt1 (D1.over st1 hs₁ S.zf1) fun x1 p1 tk1 hx1 sn1 hp1 => wpAny_pure ?_)
  replace hp1 : Heap.SameBut i1 h₁ p1 := hp1
  refine wpAny_pure ?_
  refine wpAny_bind (wpAny_bind (wpAny_holding ?_))
  show wpAny _ _ (Builtin.SmallTypes.nextOf (.ref i2) >>= _) _ _ ⟨p1, g, d, tk1, os⟩
  refine wpAny_bind (D2.item i _ _ _ hlt2 (D2.over (D2.over st2 hs₁ S.zf2) hp1 S.sep1_2) fun x2 p2 tk2 hx2 sn2 hp2 => wpAny_pure ?_)
  replace hp2 : Heap.SameBut i2 p1 p2 := hp2
  refine wpAny_pure (wpAny_pure ?_)
  show wpAny _ _ (newTuple [x1, x2] >>= _) _ _ ⟨p2, g, d, tk2, os⟩
  refine wpAny_bind (wpAny_newTuple ?_)
  have hsz : p2.objs.size = hp.objs.size := by rw [hp2.1, hp1.1, hs₁.1]
  have hz₃ : IsZipHeld p2 z TI TO T true := hp2.extBut _ _ S.zi2 (hp1.extBut _ _ S.zi1 hz₁)
  have hk : ∀ c o, c ≠ z → c ≠ i1 → c ≠ i2 → hp.get? c = some o → p2.get? c = some o := fun c o c1 c2 c3 e => hp2.extBut _ _ c3 (hp1.extBut _ _ c2 (hs₁.extBut _ _ c1 e))
  have j1 : St1 (i + 1) p2 := D1.over sn1 hp2 S.sep2_1
  refine wpAny_pure ⟨_, rfl, ?_⟩
  show Q (.ref p2.objs.size) _
  have hpp : IsTupOf2 (p2.push { cls := .type "tuple", data := .seq #[x1, x2] }) p2.objs.size x1 x2 := Heap.get?_push_size _ rfl
  have hz4 : (p2.push { cls := .type "tuple", data := .seq #[x1, x2] }).objs.size = p2.objs.size + 1 := Heap.size_push ..
  rw [hsz] at hpp hz4 ⊢
  exact hQ x1 x2 _ tk2 hx1 hx2 (Heap.get?_push_of_some _ hz₃) (D1.frame _ _ _ j1 fun b _ o e => Heap.get?_push_of_some _ e) (D2.frame _ _ _ sn2 fun b _ o e => Heap.get?_push_of_some _ e) hpp hz4 fun c o c1 c2 c3 e => Heap.get?_push_of_some _ (hk c o c1 c2 c3 e)
theorem zipH_end {Q : Fin → Shared → Prop} (S : ZipSep2 z TI TO i1 i2 fp1 fp2) (D1 : Draws prog w A i1 fp1 n1 P1 St1) (D2 : Draws prog w A i2 fp2 n2 P2 St2)
    (hz : IsZipHeld s.heap z TI TO T f) (hT : s.heap.get? T = some oT) (hTI : IsTupOf2 s.heap TI (.ref i1) (.ref i2)) (st1 : St1 i s.heap) (st2 : St2 i s.heap) (hle1 : i ≤ n1) (hle2 : i ≤ n2) (hend : i = n1 ∨ i = n2)
    (hE : ∀ h' tk e, (∀ c o, c ≠ z → c ≠ i1 → c ≠ i2 → s.heap.get? c = some o → h'.get? c = some o) → (∃ o, h'.get? e = some o ∧ o.cls = .type "StopIteration") → E (.ref e) { s with heap := h', toks := tk }) :
    wpAny (model prog w) A (Builtin.«zip.__next__» ⟨[.ref z], []⟩) Q E s := by
  obtain ⟨hp, g, d, tk0, os⟩ := s
  show wpAny _ _ (field (.ref z) 2 >>= _) _ _ _
  refine wpAny_bind (wpAny_field hz rfl (x := .bool false) rfl ?_)
  show wpAny _ _ (field (.ref z) 3 >>= _) _ _ _
  refine wpAny_bind (wpAny_field hz rfl (x := .ref TI) rfl ?_)
  refine wpAny_bind (wpAny_seqItems hTI rfl ?_)
  show wpAny _ _ (Builtin.SmallTypes.ownedTupleIsFree (.ref z) >>= _) _ _ _
  refine wpAny_bind (wpAny_tupleHeld_zip hz hT fun h₁ hz₁ hs₁ => ?_)
  replace hs₁ : Heap.SameBut z hp h₁ := hs₁
  simp only [Bool.false_eq_true, if_false]
  refine wpAny_bind ?_
  rw [← Array.forIn_toList]
  simp only [List.forIn_cons, List.forIn_nil]
  refine wpAny_bind (wpAny_bind (wpAny_holding ?_))
  show wpAny _ _ (Builtin.SmallTypes.nextOf (.ref i1) >>= _) _ _ ⟨h₁, g, d, tk0, os⟩
  by_cases hlt1 : i < n1
  · refine wpAny_bind (D1.item i _ _ _ hlt1 (D1.over st1 hs₁ S.zf1) fun x1 p1 tk1 hx1 sn1 hp1 => wpAny_pure ?_)
    replace hp1 : Heap.SameBut i1 h₁ p1 := hp1
    have hi2 : i = n2 := by omega
    refine wpAny_pure ?_
    refine wpAny_bind (wpAny_bind (wpAny_holding ?_))
    show wpAny _ _ (Builtin.SmallTypes.nextOf (.ref i2) >>= _) _ _ ⟨p1, g, d, tk1, os⟩
    refine wpAny_bind (D2.done ⟨p1, g, d, tk1, os⟩ _ _ (by rw [← hi2]; exact (D2.over (D2.over st2 hs₁ S.zf2) hp1 S.sep1_2)) fun q e hq he => ?_)
    exact hE q tk1 e (fun c o cz c1 c2 x => hq _ _ c2 (hp1.extBut _ _ c1 (hs₁.extBut _ _ cz x))) he
  · have hi1 : i = n1 := by omega
    refine wpAny_bind (D1.done ⟨h₁, g, d, tk0, os⟩ _ _ (by rw [← hi1]; exact (D1.over st1 hs₁ S.zf1)) fun q e hq he => ?_)
    exact hE q tk0 e (fun c o cz c1 c2 x => hq _ _ c1 (hs₁.extBut _ _ cz x)) he
theorem pyNext_zipH_item {Q : Option Value → Shared → Prop} (S : ZipSep2 z TI TO i1 i2 fp1 fp2) (D1 : Draws prog w A.in1 i1 fp1 n1 P1 St1) (D2 : Draws prog w A.in1 i2 fp2 n2 P2 St2)
    (hz : IsZipHeld s.heap z TI TO T f) (hT : s.heap.get? T = some oT) (hTI : IsTupOf2 s.heap TI (.ref i1) (.ref i2)) (st1 : St1 i s.heap) (st2 : St2 i s.heap) (hlt1 : i < n1) (hlt2 : i < n2)
    (hQ : ∀ x1 x2 h' tk, P1 i x1 → P2 i x2 → IsZipHeld h' z TI TO T true → St1 (i + 1) h' → St2 (i + 1) h' → IsTupOf2 h' s.heap.objs.size x1 x2 → h'.objs.size = s.heap.objs.size + 1 →
      (∀ c o, c ≠ z → c ≠ i1 → c ≠ i2 → s.heap.get? c = some o → h'.get? c = some o) → Q (some (.ref s.heap.objs.size)) { s with heap := h', toks := tk }) :
    wpAny (model prog w) A (pyNext (.ref z)) Q E s := by
  have hTy : s.TypeIs (.ref z) "zip" := ⟨_, hz, rfl⟩
  unfold pyNext
  exact wpAny_bind (wpAny_attempt (wpAny_callSpecial?_slot (name := Str.ofString "__next__") hTy F.slot_zip_next
    (wpAny_call_entry F.slot_zip_next hTy F.entry_zip_next
      (zipH_item S D1 D2 hz hT hTI st1 st2 hlt1 hlt2 fun x1 x2 h' tk a1 a2 a3 a4 a5 a6 a7 a8 => wpAny_pure (hQ x1 x2 h' tk a1 a2 a3 a4 a5 a6 a7 a8)) (F.args_zip_next_1 _))))
theorem pyNext_zipH_end {Q : Option Value → Shared → Prop} (S : ZipSep2 z TI TO i1 i2 fp1 fp2) (D1 : Draws prog w A.in1 i1 fp1 n1 P1 St1) (D2 : Draws prog w A.in1 i2 fp2 n2 P2 St2)
    (hz : IsZipHeld s.heap z TI TO T f) (hT : s.heap.get? T = some oT) (hTI : IsTupOf2 s.heap TI (.ref i1) (.ref i2)) (st1 : St1 i s.heap) (st2 : St2 i s.heap) (hle1 : i ≤ n1) (hle2 : i ≤ n2) (hend : i = n1 ∨ i = n2)
    (hQ : ∀ h' tk, (∀ c o, c ≠ z → c ≠ i1 → c ≠ i2 → s.heap.get? c = some o → h'.get? c = some o) → Q none { s with heap := h', toks := tk }) : wpAny (model prog w) A (pyNext (.ref z)) Q E s := by
  have hTy : s.TypeIs (.ref z) "zip" := ⟨_, hz, rfl⟩
  unfold pyNext
  refine wpAny_bind (wpAny_attempt (wpAny_callSpecial?_slot (name := Str.ofString "__next__") hTy F.slot_zip_next
    (wpAny_call_entry F.slot_zip_next hTy F.entry_zip_next (zipH_end S D1 D2 hz hT hTI st1 st2 hle1 hle2 hend fun h' tk e hk he => ?_) (F.args_zip_next_1 _))))
  obtain ⟨o, ho, hc⟩ := he
  refine wpAny_bind (wpAny_isInstance (T := "StopIteration") (b := true) ⟨o, ho, hc⟩ isSubtype_stop ?_)
  exact wpAny_pure (hQ _ _ hk)
end
theorem zip_no_len : typeLookup (.type "zip") "__len__" = pure none := by rw [typeLookup_type, builtinLookup_eq_fast]; kernel_rfl
theorem zip_no_hint : typeLookup (.type "zip") "__length_hint__" = pure none := by rw [typeLookup_type, builtinLookup_eq_fast]; kernel_rfl
/-- the state of a zip whose tuples go into a list at S -/
def ZSt (z TI TO i1 i2 S : Addr) (L l : Addr) (xs ys : Array Value) (i : Nat) (h : Heap) : Prop :=
  IsTupOf2 h TI (.ref i1) (.ref i2) ∧ (h.IsListIter i1 L i ∧ h.IsList L xs) ∧ (h.IsTupleIter i2 l i ∧ h.IsTuple l ys) ∧ ((IsZip h z TI TO .none ∧ ∃ a b, IsTupOf2 h TO a b) ∨ ∃ T f oT, IsZipHeld h z TI TO T f ∧ h.get? T = some oT ∧ T ≠ z ∧ T ≠ i1 ∧ T ≠ i2 ∧ T ≠ S)
/-- the cells lie apart -/
structure ZSep (z TI TO i1 i2 S L l : Addr) : Prop where
  s : ZipSep2 z TI TO i1 i2 [i1, L] [i2, l]
  L1 : L ≠ i1
  l2 : l ≠ i2
  nS : z ≠ S ∧ TI ≠ S ∧ TO ≠ S ∧ i1 ≠ S ∧ i2 ≠ S ∧ L ≠ S ∧ l ≠ S
theorem ZSt.keep {h h' : Heap} {z TI TO i1 i2 S L l : Addr} {xs ys : Array Value} {i : Nat} (a : ZSep z TI TO i1 i2 S L l) (x : ZSt z TI TO i1 i2 S L l xs ys i h) (hk : ∀ b o, b ≠ S → h.get? b = some o → h'.get? b = some o) : ZSt z TI TO i1 i2 S L l xs ys i h' := by
  obtain ⟨a1, a2, a3, a4, a5, a6, a7⟩ := a.nS
  obtain ⟨hTI, ⟨h1, hl1⟩, ⟨h2, hl2⟩, hz⟩ := x
  refine ⟨hk _ _ a2 hTI, ⟨h1.at fun o e => hk _ o a4 e, hl1.at fun o e => hk _ o a6 e⟩, ⟨h2.at fun o e => hk _ o a5 e, hl2.at fun o e => hk _ o a7 e⟩, ?_⟩
  rcases hz with ⟨hz, a, b, hTO⟩ | ⟨T, f, oT, hz, hT, r1, r2, r3, r4⟩
  · exact .inl ⟨hk _ _ a1 hz, a, b, hk _ _ a3 hTO⟩
  · exact .inr ⟨T, f, oT, hk _ _ a1 hz, hk _ _ r4 hT, r1, r2, r3, r4⟩
section
variable {prog : Program} {w : World} {A : Around} {E : Value → Shared → Prop} {s : Shared} {z TI TO i1 i2 S L l : Addr} {xs ys : Array Value} {i : Nat}
theorem zst_item {Q : Option Value → Shared → Prop} {x y : Value} (hh : A.handled = none) (a : ZSep z TI TO i1 i2 S L l) (st : ZSt z TI TO i1 i2 S L l xs ys i s.heap) (hS : S < s.heap.objs.size) (hx : xs[i]? = some x) (hy : ys[i]? = some y)
    (hQ : ∀ h' tk, ZSt z TI TO i1 i2 S L l xs ys (i + 1) h' → h'.get? s.heap.objs.size = some { cls := .type "tuple", data := .seq #[x, y] } → h'.objs.size = s.heap.objs.size + 1 →
      (∀ b o, b ≠ z → b ≠ TO → b ≠ i1 → b ≠ i2 → s.heap.get? b = some o → h'.get? b = some o) → Q (some (.ref s.heap.objs.size)) { s with heap := h', toks := tk }) :
    wpAny (model prog w) A (pyNext (.ref z)) Q E s := by
  obtain ⟨hTI, st1, st2, hz⟩ := st
  have D1 := Draws.list (prog := prog) (w := w) (A := A.in1) hh i1 L a.L1 xs
  have D2 := Draws.tuple (prog := prog) (w := w) (A := A.in1) hh i2 l a.l2 ys
  have lx : i < xs.size := by
    rcases Nat.lt_or_ge i xs.size with q | q
    · exact q
    · rw [Array.getElem?_eq_none q] at hx; cases hx
  have ly : i < ys.size := by
    rcases Nat.lt_or_ge i ys.size with q | q
    · exact q
    · rw [Array.getElem?_eq_none q] at hy; cases hy
  have lt : ∀ {c o}, s.heap.get? c = some o → s.heap.objs.size ≠ c := fun e => Nat.ne_of_gt (Heap.lt_size e)
  have n1 : s.heap.objs.size ≠ i1 := let ⟨_, e, _⟩ := st1.1; lt e
  have n2 : s.heap.objs.size ≠ i2 := let ⟨_, e, _⟩ := st2.1; lt e
  rcases hz with ⟨hz, u, v, hTO⟩ | ⟨T, f, oT, hz, hT, r1, r2, r3, r4⟩
  · refine wpAny_pyNext_zipD2_item a.s D1 D2 hz hTI hTO st1 st2 lx ly fun x1 x2 h' tk p1 p2 b1 b2 d1 d2 b5 b6 hk => ?_
    have e1 : x1 = x := Option.some.inj (p1.symm.trans hx)
    have e2 : x2 = y := Option.some.inj (p2.symm.trans hy)
    subst e1 e2
    exact hQ h' tk ⟨hk _ _ a.s.TIz a.s.TITO a.s.TIi1 a.s.TIi2 hTI, d1, d2, .inr ⟨_, false, _, b1, b5, lt hz, n1, n2, Nat.ne_of_gt hS⟩⟩ b5 b6 hk
  · refine pyNext_zipH_item a.s D1 D2 hz hT hTI st1 st2 lx ly fun x1 x2 h' tk p1 p2 b1 d1 d2 b5 b6 hk => ?_
    have e1 : x1 = x := Option.some.inj (p1.symm.trans hx)
    have e2 : x2 = y := Option.some.inj (p2.symm.trans hy)
    subst e1 e2
    exact hQ h' tk ⟨hk _ _ a.s.TIz a.s.TIi1 a.s.TIi2 hTI, d1, d2, .inr ⟨T, true, oT, b1, hk _ _ r1 r2 r3 hT, r1, r2, r3, r4⟩⟩ b5 b6 fun b o q1 _ q3 q4 e => hk b o q1 q3 q4 e
theorem zst_end {Q : Option Value → Shared → Prop} (hh : A.handled = none) (a : ZSep z TI TO i1 i2 S L l) (st : ZSt z TI TO i1 i2 S L l xs ys i s.heap) (h1 : i ≤ xs.size) (h2 : i ≤ ys.size) (he : i = xs.size ∨ i = ys.size)
    (hQ : ∀ h' tk, (∀ b o, b ≠ z → b ≠ TO → b ≠ i1 → b ≠ i2 → s.heap.get? b = some o → h'.get? b = some o) → Q none { s with heap := h', toks := tk }) :
    wpAny (model prog w) A (pyNext (.ref z)) Q E s := by
  obtain ⟨hTI, st1, st2, hz⟩ := st
  have D1 := Draws.list (prog := prog) (w := w) (A := A.in1) hh i1 L a.L1 xs
  have D2 := Draws.tuple (prog := prog) (w := w) (A := A.in1) hh i2 l a.l2 ys
  rcases hz with ⟨hz, u, v, hTO⟩ | ⟨T, f, oT, hz, hT, r1, r2, r3, r4⟩
  · exact wpAny_pyNext_zipD2_end a.s D1 D2 hz hTI hTO st1 st2 h1 h2 he fun h' tk hk => hQ h' tk hk
  · exact pyNext_zipH_end a.s D1 D2 hz hT hTI st1 st2 h1 h2 he fun h' tk hk => hQ h' tk fun b o q1 _ q3 q4 e => hk b o q1 q3 q4 e
/-- the tuples made -/
structure ZG (xs ys : Array Value) (lo : Addr) (h : Heap) (as : List Addr) : Prop where
  rise : as.Pairwise (· < ·)
  above : ∀ a ∈ as, lo < a
  pairs : ∀ (j : Nat) (a : Addr), as[j]? = some a → ∃ x y, xs[j]? = some x ∧ ys[j]? = some y ∧ h.get? a = some { cls := .type "tuple", data := .seq #[x, y] }
theorem ZG.there {xs ys : Array Value} {lo : Addr} {h : Heap} {as : List Addr} (g : ZG xs ys lo h as) {a : Addr} (ha : a ∈ as) : a < h.objs.size := by
  obtain ⟨j, hj⟩ := List.mem_iff_getElem?.mp ha
  obtain ⟨_, _, _, _, e⟩ := g.pairs j a hj
  exact Heap.lt_size e
theorem zst_loop {R : Result → Shared → Prop} (hh : A.handled = none) (a : ZSep z TI TO i1 i2 S L l) (lo : z < S ∧ TO < S ∧ i1 < S ∧ i2 < S) (n : Nat) (n1 : n ≤ xs.size) (n2 : n ≤ ys.size) (ne : n = xs.size ∨ n = ys.size) (hn : n ≤ sizeLine) (res : Value) {h₁ : Heap}
    (hR : ∀ h' tk acc c as, (∀ b o, b ≠ S → b ≠ z → b ≠ TO → b ≠ i1 → b ≠ i2 → h₁.get? b = some o → h'.get? b = some o) → h'.get? S = some { cls := .type "list", dict := none, data := .seq acc c, slots := #[] } → as.length = n → ZG xs ys S h' as →
      acc.toList = as.map Value.ref → R (.ok (.ret res)) { s with heap := h', toks := tk }) :
    ∀ (k i : Nat) (h : Heap) (tk c : Nat) (acc : Array Value) (as : List Addr), n - i = k → i ≤ n → ZSt z TI TO i1 i2 S L l xs ys i h → (∀ b o, b ≠ S → b ≠ z → b ≠ TO → b ≠ i1 → b ≠ i2 → h₁.get? b = some o → h.get? b = some o) →
      h.get? S = some { cls := .type "list", dict := none, data := .seq acc c, slots := #[] } → acc.toList = as.map Value.ref → as.length = i → ZG xs ys S h as →
      codeAny (model prog w) A (.builtin "list.extend.loop" ⟨[.ref S, .ref z, res], []⟩) R { s with heap := h, toks := tk } := by
  obtain ⟨a1, a2, a3, a4, a5, a6, a7⟩ := a.nS
  obtain ⟨l1, l2, l3, l4⟩ := lo
  intro k
  induction k with
  | zero =>
    intro i h tk c acc as hk hi hst hkeep hS hacc hal hG
    have hin : i = n := by omega
    subst hin
    refine codeAny_builtin PySem.F.entry_extend_loop ?_
    rw [Around.under_plainId PySem.F.plain_extend_loop _]
    show wpAny _ A.in1 (pyNext (.ref z) >>= _) _ _ _
    refine wpAny_bind (zst_end (s := { s with heap := h, toks := tk }) (A := A.in1) hh a hst n1 n2 ne fun h' tk' he => ?_)
    refine wpAny_pure (hR h' tk' acc c as (fun b o h1 h2 h3 h4 h5 e => he b o h2 h3 h4 h5 (hkeep b o h1 h2 h3 h4 h5 e)) (he S _ (Ne.symm a1) (Ne.symm a3) (Ne.symm a4) (Ne.symm a5) hS) hal ⟨hG.rise, hG.above, fun j b hj => ?_⟩ hacc)
    obtain ⟨x, y, e1, e2, e3⟩ := hG.pairs j b hj
    have hb := hG.above b (List.mem_of_getElem? hj)
    exact ⟨x, y, e1, e2, he b _ (Nat.ne_of_gt (Nat.lt_trans l1 hb)) (Nat.ne_of_gt (Nat.lt_trans l2 hb)) (Nat.ne_of_gt (Nat.lt_trans l3 hb)) (Nat.ne_of_gt (Nat.lt_trans l4 hb)) e3⟩
  | succ k ih =>
    intro i h tk c acc as hk hi hst hkeep hS hacc hal hG
    have hlt : i < n := by omega
    obtain ⟨x, hx⟩ : ∃ x, xs[i]? = some x := ⟨xs[i]'(by omega), Array.getElem?_eq_getElem (by omega)⟩
    obtain ⟨y, hy⟩ : ∃ y, ys[i]? = some y := ⟨ys[i]'(by omega), Array.getElem?_eq_getElem (by omega)⟩
    have hsz : acc.size = i := by rw [← Array.length_toList, hacc, List.length_map, hal]
    have hSl : S < h.objs.size := Heap.lt_size hS
    refine codeAny_builtin PySem.F.entry_extend_loop ?_
    rw [Around.under_plainId PySem.F.plain_extend_loop _]
    show wpAny _ A.in1 (pyNext (.ref z) >>= _) _ _ _
    refine wpAny_bind (zst_item (s := { s with heap := h, toks := tk }) (A := A.in1) hh a hst hSl hx hy fun h' tk' hst' ht hz hkp => ?_)
    dsimp only at ht hz hkp ⊢
    have hS' := hkp S _ (Ne.symm a1) (Ne.symm a3) (Ne.symm a4) (Ne.symm a5) hS
    have up : ∀ b o, b ≠ S → h'.get? b = some o → (h'.update S (Obj.mapSeq (·.push (Value.ref h.objs.size)))).get? b = some o := fun b o hb e => (Heap.get?_update_other _ _ (Ne.symm hb)).trans e
    show wpAny _ A.in1 (updateSeq S (·.push (Value.ref h.objs.size)) >>= _) _ _ _
    refine wpAny_bind ?_
    refine wpAny_updateSeq hS' rfl (wpAny_pure ⟨plainId_quiet PySem.F.plain_extend_loop _, ih (i + 1) _ tk' _ (acc.push (Value.ref h.objs.size)) (as ++ [h.objs.size]) (by omega) hlt (hst'.keep a up)
      (fun b o h1 h2 h3 h4 h5 e => up b o h1 (hkp b o h2 h3 h4 h5 (hkeep b o h1 h2 h3 h4 h5 e))) (Heap.get?_update_self _ hS' rfl) (by rw [Array.toList_push, hacc, List.map_append]; rfl) (by rw [List.length_append, hal]; rfl) ⟨?_, ?_, ?_⟩⟩) (by rw [hsz]; omega) (by show (acc.push (Value.ref h.objs.size)).size ≤ sizeLine + 1; rw [Array.size_push, hsz]; omega)
    · refine List.pairwise_append.mpr ⟨hG.rise, List.pairwise_singleton _ _, fun a ha b hb => ?_⟩
      rw [List.mem_singleton.mp hb]
      exact hG.there ha
    · intro b hb
      rcases List.mem_append.mp hb with hb | hb
      · exact hG.above b hb
      · rw [List.mem_singleton.mp hb]; exact hSl
    · intro j b hj
      rcases Nat.lt_trichotomy j as.length with h1 | h1 | h1
      · rw [List.getElem?_append_left h1] at hj
        obtain ⟨x', y', e1, e2, e3⟩ := hG.pairs j b hj
        have hb := hG.above b (List.mem_of_getElem? hj)
        exact ⟨x', y', e1, e2, up b _ (Nat.ne_of_gt hb) (hkp b _ (Nat.ne_of_gt (Nat.lt_trans l1 hb)) (Nat.ne_of_gt (Nat.lt_trans l2 hb)) (Nat.ne_of_gt (Nat.lt_trans l3 hb)) (Nat.ne_of_gt (Nat.lt_trans l4 hb)) e3)⟩
      · subst h1
        have hb : h.objs.size = b := by simpa using hj
        subst hb
        exact ⟨x, y, by rw [hal]; exact hx, by rw [hal]; exact hy, up _ _ (Nat.ne_of_gt hSl) ht⟩
      · have hnone : (as ++ [h.objs.size])[j]? = none := List.getElem?_eq_none (by rw [List.length_append, List.length_singleton]; omega)
        rw [hnone] at hj; cases hj
theorem zst_list {Q : Value → Shared → Prop} (hh : A.handled = none) (s0 : ZipSep2 z TI TO i1 i2 [i1, L] [i2, l]) (hL1 : L ≠ i1) (hl2 : l ≠ i2) (hz : IsZip s.heap z TI TO .none) (hTI : IsTupOf2 s.heap TI (.ref i1) (.ref i2)) {u v : Value} (hTO : IsTupOf2 s.heap TO u v)
    (h1 : s.heap.IsListIter i1 L 0) (hL : s.heap.IsList L xs) (h2 : s.heap.IsTupleIter i2 l 0) (hl : s.heap.IsTuple l ys) (n : Nat) (n1 : n ≤ xs.size) (n2 : n ≤ ys.size) (ne : n = xs.size ∨ n = ys.size) (hn : n ≤ sizeLine)
    (hQ : ∀ h' tk acc c as, (∀ b o, b ≠ z → b ≠ TO → b ≠ i1 → b ≠ i2 → s.heap.get? b = some o → h'.get? b = some o) → h'.get? s.heap.objs.size = some { cls := .type "list", dict := none, data := .seq acc c, slots := #[] } → as.length = n → ZG xs ys s.heap.objs.size h' as →
      acc.toList = as.map Value.ref → Q (.ref s.heap.objs.size) { s with heap := h', toks := tk }) :
    wpAny (model prog w) A (call (.type "list") [.ref z]) Q E s := by
  refine callType_codes (Q₁ := fun obj s₁ => obj = .ref s.heap.objs.size ∧ s₁ = { s with heap := s.heap.push { cls := .type "list", data := .seq #[] } }) PySem.F.called_list (PySem.F.typeCall_list_1 _) PySem.F.entry_list_init
    (code_list_new _ ⟨rfl, rfl⟩) fun obj s₁ h₁ => ?_
  obtain ⟨rfl, rfl⟩ := h₁
  have lt : ∀ {c o}, s.heap.get? c = some o → c ≠ s.heap.objs.size := fun e => Nat.ne_of_lt (Heap.lt_size e)
  have ltl : ∀ {c o}, s.heap.get? c = some o → c < s.heap.objs.size := fun e => Heap.lt_size e
  have q1 : i1 < s.heap.objs.size := let ⟨_, e, _⟩ := h1; ltl e
  have q2 : i2 < s.heap.objs.size := let ⟨_, e, _⟩ := h2; ltl e
  have q3 : L < s.heap.objs.size := let ⟨_, e, _⟩ := hL; ltl e
  have q4 : l < s.heap.objs.size := let ⟨_, e, _⟩ := hl; ltl e
  have a : ZSep z TI TO i1 i2 s.heap.objs.size L l := ⟨s0, hL1, hl2, lt hz, lt hTI, lt hTO, Nat.ne_of_lt q1, Nat.ne_of_lt q2, Nat.ne_of_lt q3, Nat.ne_of_lt q4⟩
  have hS : (s.heap.push { cls := .type "list", data := .seq #[] }).get? s.heap.objs.size = some { cls := .type "list", data := .seq #[] } := Heap.get?_push_size _ rfl
  have up0 : ∀ b o, s.heap.get? b = some o → (s.heap.push { cls := .type "list", data := .seq #[] }).get? b = some o := fun b o e => Heap.get?_push_of_some _ e
  have Z0 : ZSt z TI TO i1 i2 s.heap.objs.size L l xs ys 0 (s.heap.push { cls := .type "list", data := .seq #[] }) :=
    ZSt.keep a ⟨hTI, ⟨h1, hL⟩, ⟨h2, hl⟩, .inl ⟨hz, u, v, hTO⟩⟩ fun b o _ e => up0 b o e
  refine ⟨⟨_, hS, rfl⟩, PySem.F.args_list_init_2 _ _, ?_⟩
  show wpAny _ _ (do let old ← Builtin.List.listItems (.ref s.heap.objs.size); Builtin.List.listUpdate (.ref s.heap.objs.size) (fun _ => #[]); letGo old.toList.reverse; Builtin.List.listExtendWith (.ref s.heap.objs.size) (.ref z) .none) _ _ _
  refine wpAny_bind ?_
  unfold Builtin.List.listItems
  refine wpAny_bind (wpAny_seqItems hS rfl (wpAny_pure ?_))
  show wpAny _ _ (updateSeq s.heap.objs.size (fun _ => #[]) >>= fun _ => letGo (#[] : Array Value).toList.reverse >>= fun _ => Builtin.List.listExtendWith (.ref s.heap.objs.size) (.ref z) .none) _ _ _
  refine wpAny_bind (wpAny_updateSeq hS rfl ?_)
  have hS₂ := Heap.get?_update_self (Obj.mapSeq (fun _ => (#[] : Array Value))) hS rfl
  have up1 : ∀ b o, b ≠ s.heap.objs.size → s.heap.get? b = some o → ((s.heap.push { cls := .type "list", data := .seq #[] }).update s.heap.objs.size (Obj.mapSeq (fun _ => (#[] : Array Value)))).get? b = some o :=
    fun b o hb e => (Heap.get?_update_other _ _ (Ne.symm hb)).trans (up0 b o e)
  have Z1 := Z0.keep a (h' := (s.heap.push { cls := .type "list", data := .seq #[] }).update s.heap.objs.size (Obj.mapSeq (fun _ => (#[] : Array Value)))) fun b o hb e => (Heap.get?_update_other _ _ (Ne.symm hb)).trans e
  refine wpAny_bind (wpAny_letGo ?_)
  unfold Builtin.List.listExtendWith
  have hTy : ∀ tk', (⟨(s.heap.push { cls := .type "list", data := .seq #[] }).update s.heap.objs.size (Obj.mapSeq (fun _ => (#[] : Array Value))), s.gens, s.drawn, tk', s.os⟩ : Shared).TypeIs (.ref z) "zip" := fun _ => ⟨_, up1 _ _ a.nS.1 hz, rfl⟩
  refine wpAny_bind (wpAny_typeOf (hTy _) ?_)
  have e1 : Builtin.List.listSameRef (.ref s.heap.objs.size) (.ref z) = false := by simp [Builtin.List.listSameRef, Ne.symm a.nS.1]
  have e2 : (Value.type "zip" == Value.type "list") = false := by decide
  have e3 : (Value.type "zip" == Value.type "tuple") = false := by decide
  simp only [e1, e2, e3, Bool.or_false, Bool.false_eq_true, if_false]
  refine wpAny_bind (wpAny_pyIter_zip (up1 _ _ a.nS.1 hz) ?_)
  refine wpAny_bind (wpAny_holding ?_)
  unfold Builtin.List.listLengthHint
  refine wpAny_bind (wpAny_specialOf (hTy _) zip_no_len ?_)
  show wpAny _ A.in1.in1 (specialOf (Value.ref z) (Str.ofString "__length_hint__") >>= _) _ _ _
  refine wpAny_bind (wpAny_specialOf (hTy _) zip_no_hint ?_)
  refine wpAny_pure ?_
  show wpAny _ A.in1.in1 (rule "list.extend.makes-room" >>= fun _ => Builtin.List.listTouch (.ref s.heap.objs.size) >>= fun _ =>
    again (.builtin "list.extend.loop" ⟨[.ref s.heap.objs.size, .ref z, .none], []⟩)) _ _ _
  refine wpAny_bind (wpAny_rule ?_)
  refine wpAny_bind ?_
  show wpAny _ A.in1.in1 (updateSeq s.heap.objs.size (·.push .none) >>= fun _ => updateSeq s.heap.objs.size (·.pop)) _ _ _
  refine wpAny_bind (wpAny_updateSeq hS₂ rfl ?_)
  have hS₃ := Heap.get?_update_self (Obj.mapSeq (·.push Value.none)) hS₂ rfl
  refine wpAny_updateSeq (hz := by seq_fits) hS₃ rfl ?_
  have hS₄ := Heap.get?_update_self (Obj.mapSeq (·.pop)) hS₃ rfl
  refine wpAny_pure ⟨plainId_quiet F.plain_extend_loop _, ?_⟩
  refine zst_loop (A := A.in1) (s := { s with heap := s.heap }) (h₁ := s.heap) hh a ⟨ltl hz, ltl hTO, q1, q2⟩ n n1 n2 ne hn .none (fun h' tk acc c as k1 k2 k3 k4 k5 => ⟨rfl, hQ h' tk acc c as (fun b o p1 p2 p3 p4 e => k1 b o (lt e) p1 p2 p3 p4 e) k2 k3 k4 k5⟩)
    n 0 _ _ _ #[] [] (Nat.sub_zero _) (Nat.zero_le _) (Z1.keep a fun b o hb e => (Heap.get?_update_other _ _ (Ne.symm hb)).trans ((Heap.get?_update_other _ _ (Ne.symm hb)).trans e))
    (fun b o hb _ _ _ _ e => (Heap.get?_update_other _ _ (Ne.symm hb)).trans ((Heap.get?_update_other _ _ (Ne.symm hb)).trans (up1 b o hb e))) hS₄ rfl rfl ⟨List.Pairwise.nil, (fun _ ha => nomatch ha), (fun j a hj => by simp at hj)⟩
end
end FS
set_option Elab.async false
set_option linter.all false
set_option maxRecDepth 100000
set_option maxHeartbeats 4000000
/-! list(zip(list, tuple)), an expression -/
namespace FS
open PySem PySem.Spec PyProof.Rows L2 LiI
/-- the pairs tracked at their addresses -/
def putZ : Hp → List Addr → List (V × V) → Hp
  | H, a :: as, p :: ps => putZ (upd H a (.tup [p.1, p.2])) as ps
  | H, _, _ => H
theorem putZ_off {b : Addr} : ∀ (as : List Addr) (ps : List (V × V)) (H : Hp), b ∉ as → putZ H as ps b = H b
  | [], _, _, _ => rfl
  | _ :: _, [], _, _ => rfl
  | a :: as, p :: ps, H, h => by
    show putZ (upd H a (.tup [p.1, p.2])) as ps b = H b
    rw [putZ_off as ps _ (fun z => h (List.mem_cons_of_mem _ z)), upd_ne (fun z => h (by rw [z]; exact List.mem_cons_self))]
theorem putZ_at : ∀ (as : List Addr) (ps : List (V × V)) (H : Hp), as.length = ps.length → as.Nodup → Paired (fun (t : Addr) (p : V × V) => putZ H as ps t = some (.tup [p.1, p.2])) as ps
  | [], [], _, _, _ => .nil
  | [], _ :: _, _, h, _ => by cases h
  | _ :: _, [], _, h, _ => by cases h
  | a :: as, p :: ps, H, h, hn => by
    have hn' := List.nodup_cons.mp hn
    have ih := putZ_at as ps (upd H a (.tup [p.1, p.2])) (Nat.succ.inj h) hn'.2
    refine .cons ?_ ih
    show putZ (upd H a (.tup [p.1, p.2])) as ps a = some (.tup [p.1, p.2])
    rw [putZ_off as ps _ hn'.1, upd_same]
/-- what list(zip(L, l)) makes -/
def rListZip (K : PySem.W.Frag) : List V → Hp → VK → Prop := fun vs H Q => ∃ (L l : Addr) (xs ys : List V), vs = [.ref L, .ref l] ∧ SqL K H L xs ∧ SqT K H l ys ∧
  ∀ (H' : Hp) (p : Addr) (ts : List Addr), (∀ b o, H b = some o → H' b = some o) → H p = none → (∀ t ∈ ts, H t = none) → p ∉ ts → H' p = some (.lst (ts.map V.ref)) → Paired (fun (t : Addr) (q : V × V) => H' t = some (.tup [q.1, q.2])) ts (xs.zip ys) → Q (.ref p) H'
def tListZip (K : PySem.W.Frag) (ta : TA) : TE := fun σ H Q => ta σ H fun vs H1 => rListZip K vs H1 Q
theorem nin2 {c b d : Addr} (h1 : c ≠ b) (h2 : c ≠ d) : c ∉ [b, d] := fun m => by
  rcases List.mem_cons.mp m with e | e
  · exact h1 e
  · exact h2 (List.mem_singleton.mp e)
theorem sepZ (n L l : Nat) (hL : L < n) (hl : l < n) : ZipSep2 (n + 4) (n + 2) (n + 3) n (n + 1) [n, L] [n + 1, l] := by
  have ne : ∀ {a b : Nat}, a ≠ b → (show Addr from a) ≠ (show Addr from b) := fun h => h
  exact ⟨ne (by omega), ne (by omega), ne (by omega), ne (by omega), List.mem_cons_self, nin2 (ne (by omega)) (ne (by omega)), nin2 (ne (by omega)) (ne (by omega)), ne (by omega), List.mem_cons_self, nin2 (ne (by omega)) (ne (by omega)), nin2 (ne (by omega)) (ne (by omega)), nin2 (ne (by omega)) (ne (by omega)), nin2 (ne (by omega)) (ne (by omega))⟩
theorem neZ (n b : Nat) (h : b < n) : (b : Nat) ≠ n + 4 ∧ b ≠ n + 3 ∧ b ≠ n ∧ b ≠ n + 1 := by omega
section
variable {X : Cx} {p p2 cpos pos : Pos}
theorem zip_laid {pins : List (Addr × Obj)} {σ : L2.St} {H : Hp} {s : Shared} {h' : Heap} {tk S : Nat} {xs ys : List V} {is js : List Value} {acc : Array Value} {c : Nat} {as : List Addr} (I : Inv X pins σ H s) (hz : as.length ≤ sizeLine) (r1 : Vals xs is) (r2 : Vals ys js)
    (hk : ∀ b o, s.heap.get? b = some o → h'.get? b = some o) (hSz : s.heap.objs.size ≤ S) (hS : h'.get? S = some { cls := .type "list", dict := none, data := .seq acc c, slots := #[] }) (hl : as.length = min xs.length ys.length) (hG : ZG is.toArray js.toArray S h' as) (hacc : acc.toList = as.map Value.ref) :
    ∃ H' : Hp, (∀ b o, H b = some o → H' b = some o) ∧ H S = none ∧ (∀ t ∈ as, H t = none) ∧ S ∉ as ∧ H' S = some (.lst (as.map V.ref)) ∧ Paired (fun (t : Addr) (q : V × V) => H' t = some (.tup [q.1, q.2])) as (xs.zip ys) ∧ Inv X pins σ H' { s with heap := h', toks := tk } := by
  have hSn : S ∉ as := fun z => Nat.lt_irrefl _ (hG.above _ z)
  have nd : as.Nodup := List.Pairwise.imp (fun {a b} (h : a < b) => Nat.ne_of_lt h) hG.rise
  have hi : ∀ t ∈ as, s.heap.objs.size ≤ t := fun t ht => Nat.le_trans hSz (Nat.le_of_lt (hG.above t ht))
  have new : ∀ t ∈ as, H t = none := fun t ht => I.hok.fresh (hi t ht)
  have newS : H S = none := I.hok.fresh hSz
  have atP := putZ_at as (xs.zip ys) (upd H S (.lst (as.map V.ref))) (by rw [List.length_zip]; exact hl) nd
  have off : ∀ b, b ∉ as → b ≠ S → putZ (upd H S (.lst (as.map V.ref))) as (xs.zip ys) b = H b := fun b h1 h2 => by rw [putZ_off as _ _ h1, upd_ne h2]
  have low : ∀ b o, s.heap.get? b = some o → b ∉ as ∧ b ≠ S := fun b o e => ⟨fun z => absurd (Heap.lt_size e) (Nat.not_lt.mpr (hi b z)), Nat.ne_of_lt (Nat.lt_of_lt_of_le (Heap.lt_size e) hSz)⟩
  have kp : ∀ b u, H b = some u → (putZ (upd H S (.lst (as.map V.ref))) as (xs.zip ys)) b = some u := fun b u e => by
    rw [off b (fun z => by rw [new b z] at e; cases e) (fun z => by rw [z, newS] at e; cases e)]
    exact e
  have eS : putZ (upd H S (.lst (as.map V.ref))) as (xs.zip ys) S = some (.lst (as.map V.ref)) := by rw [putZ_off as _ _ hSn, upd_same]
  refine ⟨putZ (upd H S (.lst (as.map V.ref))) as (xs.zip ys), kp, newS, new, hSn, eS, atP, ?_⟩
  refine I.call' (ch := []) rfl ⟨fun b o q _ _ _ => hk b o q, fun b o q _ _ _ => ⟨o.slots, hk b o q⟩, fun b o q n _ => ?_, fun b o q _ => ⟨o, hk b o q⟩, fun b xs q => kp b _ q, fun b o u q => kp b _ q, fun b ps q => ⟨#[], by rw [kp b _ q]; simp⟩⟩ (fun b u q => ?_) I.bare fun b z => by simp at z
  · obtain ⟨z1, z2⟩ := low b o q
    rw [off b z1 z2]
    exact n
  · by_cases hb : b ∈ as
    · obtain ⟨j, pk, e1, e2, e3⟩ := paired_ix atP hb
      rw [e3] at q
      cases q
      obtain ⟨x, y, f1, f2, f3⟩ := hG.pairs j b e1
      rw [List.getElem?_zip_eq_some] at e2
      obtain ⟨g1, g2⟩ := e2
      obtain ⟨x', w1, w2⟩ := r1.get g1
      obtain ⟨y', w3, w4⟩ := r2.get g2
      have ex : x = x' := by
        rw [List.getElem?_toArray, w1] at f1
        exact (Option.some.inj f1).symm
      have ey : y = y' := by
        rw [List.getElem?_toArray, w3] at f2
        exact (Option.some.inj f2).symm
      subst ex ey
      exact ⟨by show 2 ≤ sizeLine; decide, [x, y], .cons w2 (.cons w4 .nil), ⟨_, f3, rfl, _, rfl⟩⟩
    · by_cases hb2 : b = S
      · rw [hb2] at q ⊢
        rw [eS] at q
        cases q
        refine ⟨by rw [List.length_map]; exact hz, acc.toList, c, by rw [hacc]; exact LiI.vals_refs as, ?_⟩
        rw [Array.toArray_toList]
        exact hS
      · rw [off b hb hb2] at q
        exact (I.hok b u q).stay (fun d v _ y => hk d v y) (fun d y => kp d _ y) fun d xs y => kp d _ y
/-- list(zip(e1, e2)), of a list and a tuple -/
theorem pe_listZip {e1 e2 : Expr} {ta : TA} (hc : X.calm = true) (ha : PA X [e1, e2] ta) (hg : Gl X "list") (hm : X.mg "list" = none) (hgz : Gl X "zip") (hmz : X.mg "zip" = none)
    (hs : starEach [.Call (.Name "zip" p2) [e1, e2] [] cpos] X.env = (false, eval (.Call (.Name "zip" p2) [e1, e2] [] cpos) X.env) :: starEach [] X.env := by rfl)
    (hs2 : starEach [e1, e2] X.env = (false, eval e1 X.env) :: starEach [e2] X.env := by rfl) (hpl : (backTo cpos (starEach [e2] X.env)).any (·.1) = false := by rfl) :
    PE X (.Call (.Name "list" p) [.Call (.Name "zip" p2) [e1, e2] [] cpos] [] pos) (tListZip X.K ta) := by
  refine ⟨fun pins s σ H Q I hq => ?_⟩
  refine wpAny_Call_Name_kw (ld_blt I hg hm (by rfl : bootBuiltins "list" = some (.type "list")) ?_)
  refine PyProof.Rows.callWith_type1 ?_ hs rfl
  rw [hs]
  show wpAny _ _ (spliced ((false, eval (.Call (.Name "zip" p2) [e1, e2] [] cpos) X.env) :: backTo pos (starEach [] X.env))) _ _ s
  refine Calls.spliced_cons ?_
  refine Call_ (ld_blt I hgz hmz PyProof.Rows.boot_zip (PyProof.Rows.callWith_type1 (thn (ha.run cpos pins s σ H _ I hq) fun us s1 ⟨vs, H1, J, rr1, q1⟩ => ?_) hs2 hpl))
  obtain ⟨L, l, xs, ys, ex, sx, sy, q⟩ := q1
  subst ex
  cases rr1 with
  | cons r rr => cases rr with
    | cons r' rr =>
      cases rr
      cases r
      cases r'
      obtain ⟨is, v1, t1, z1⟩ := J.list sx
      obtain ⟨js, v2, t2, z2⟩ := J.tuple sy
      have hh : X.A.handled = none := J.ok.hd hc
      have tL : s1.heap.IsList L is.toArray := let ⟨o, n, e1, e2, e3, e4⟩ := t1; ⟨o, e1, e2, n, e4⟩
      have lL : L < s1.heap.objs.size := let ⟨_, _, e, _⟩ := t1; Heap.lt_size e
      have ll : l < s1.heap.objs.size := let ⟨_, e, _⟩ := id t2; Heap.lt_size e
      refine zip_begins2 (begins_list L is.toArray) (begins_tuple l js.toArray) tL t2 fun h' w1 w2 w3 w4 w5 sz hk => ?_
      refine Calls.spliced_nil ?_
      have m1 : min xs.length ys.length ≤ is.toArray.size := by
        have := v1.length
        simp
        omega
      have m2 : min xs.length ys.length ≤ js.toArray.size := by
        have := v2.length
        simp
        omega
      have m3 : min xs.length ys.length = is.toArray.size ∨ min xs.length ys.length = js.toArray.size := by
        have h1 := v1.length
        have h2 := v2.length
        simp
        omega
      refine zst_list (s := { s1 with heap := h' }) hh (sepZ _ _ _ lL ll) (Nat.ne_of_lt lL) (Nat.ne_of_lt (Nat.lt_succ_of_lt ll)) w1 w2 w3 ⟨_, w4, rfl, rfl⟩ (Heap.IsList.at tL fun o e => hk _ o e) ⟨_, w5, rfl, rfl⟩ (Heap.IsTuple.at t2 fun o e => hk _ o e) (min xs.length ys.length) m1 m2 m3 (Nat.le_trans (Nat.min_le_left _ _) z1) fun h2 tk acc c as k1 k2 k3 k4 k5 => ?_
      have kk : ∀ b o, s1.heap.get? b = some o → h2.get? b = some o := fun b o e => by
        obtain ⟨q1, q2, q3, q4⟩ := neZ _ b (Heap.lt_size e)
        exact k1 b o q1 q2 q3 q4 (hk b o e)
      have e5 : h'.objs.size = s1.heap.objs.size + 5 := sz
      obtain ⟨H', g1, g2, g3, g4, g5, g6, J2⟩ := zip_laid (tk := tk) (S := h'.objs.size) J (by rw [k3]; exact Nat.le_trans (Nat.min_le_left _ _) z1) v1 v2 kk (by rw [e5]; exact Nat.le_add_right _ _) k2 k3 k4 k5
      exact ⟨.ref _, H', J2, rfl, q H' _ as g1 g2 g3 g4 g5 g6⟩
end
end FS
set_option Elab.async false
set_option linter.all false
set_option maxRecDepth 100000
set_option maxHeartbeats 4000000
/-! drawn programs: rows, promises -/
namespace FS
open PySem PySem.Spec PyProof.Rows L2
/-- rows: a name, its parameters, its body, as tuples -/
inductive RowsT (K : PySem.W.Frag) (H : Hp) (m : Int) (tb : Tbl) (d c : Nat) : List Addr → List RowU → Prop
  | nil : RowsT K H m tb d c [] []
  | cons {r : Addr} {ov bv : V} {u : RowU} {rs : List Addr} {us : List RowU} (h : SqT K H r [.str u.1, ov, bv]) (p : Dp K H ov (parsD u.2.1)) (g : GotL K H m tb u.2.1 d c false bv u.2.2) (po : ParOk u.2.1) (wd : wordB u.1 = true) (k : RowsT K H m tb d c rs us) : RowsT K H m tb d c (r :: rs) (u :: us)
section
variable {K : PySem.W.Frag} {H H' : Hp} {m : Int} {tb : Tbl} {d c : Nat} {rs qs : List Addr} {us vs : List RowU}
theorem RowsT.tk (e : TK H H') (x : RowsT K H m tb d c rs us) : RowsT K H' m tb d c rs us := by
  induction x with
  | nil => exact .nil
  | cons h p g po wd _ ih => exact .cons (e.sqT h) (Dp.tk e (pars_noL _) p) (g.tk e) po wd ih
theorem RowsT.len (x : RowsT K H m tb d c rs us) : rs.length = us.length := by
  induction x with
  | nil => rfl
  | cons _ _ _ _ _ _ ih => rw [List.length_cons, List.length_cons, ih]
theorem RowsT.app (x : RowsT K H m tb d c rs us) (y : RowsT K H m tb d c qs vs) : RowsT K H m tb d c (rs ++ qs) (us ++ vs) := by
  induction x with
  | nil => exact y
  | cons h p g po wd _ ih => exact .cons h p g po wd ih
theorem RowsT.at (x : RowsT K H m tb d c rs us) {i : Nat} {v : V} (e : (rs.map V.ref)[i]? = some v) : ∃ r ov bv u, v = .ref r ∧ us[i]? = some u ∧ SqT K H r [.str u.1, ov, bv] ∧ Dp K H ov (parsD u.2.1) ∧ GotL K H m tb u.2.1 d c false bv u.2.2 ∧ ParOk u.2.1 ∧ wordB u.1 = true := by
  induction x generalizing i with
  | nil => cases e
  | @cons r ov bv u rs us h p g po wd _ ih =>
    cases i with
    | zero => cases e; exact ⟨r, ov, bv, u, rfl, rfl, h, p, g, po, wd⟩
    | succ i => exact ih e
theorem RowsT.all (x : RowsT K H m tb d c rs us) : ∀ u ∈ us, GF m tb u.2.1 u.2.2 ∧ ParOk u.2.1 ∧ wordB u.1 = true ∧ u.2.2.isW = false ∧ u.2.2.deep ≤ d ∧ u.2.2.count ≤ c := by
  induction x with
  | nil => intro u hu; cases hu
  | cons h p g po wd _ ih =>
    intro u hu
    rcases List.mem_cons.mp hu with e | hu
    · rw [e]
      exact ⟨g.good, po, wd, g.kind, g.deep, g.few⟩
    · exact ih u hu
end
def parOkB (own : List (Str × Bool)) : Bool := decide (own.length ≤ 3) && own.all (fun p => wordB p.1) && decide ((own.map (·.1)).Nodup)
theorem parOk_of {own : List (Str × Bool)} (h : parOkB own = true) : ParOk own := by
  obtain ⟨h1, h2⟩ := Bool.and_eq_true_iff.mp h
  obtain ⟨h3, h4⟩ := Bool.and_eq_true_iff.mp h1
  exact ⟨of_decide_eq_true h3, fun p hp => List.all_eq_true.mp h4 p hp, of_decide_eq_true h2⟩
theorem _root_.L2.FunD.okN {P : Program} {w : World} {K : PySem.W.Frag} {mg : Str → Option Value} {base : Heap} {x qual : Str} {params : Arguments} {body : List Stmt} {scope : Scope} {dvs : List V} {kws : List (Str × V)} {f : Addr} {fd : FuncData} {N ps : List Str} {k : Nat} {sp : Sp} (F : FunD K x qual params body scope dvs kws f fd) (S : FnScope N ps scope) (len : ∀ vs H Q E, sp vs H Q E → vs.length = ps.length)
    (hbody : ∀ (cdv : Value) (A : Around) (outer : List Env) (s : Shared) (H : Hp) (vs : List V) (Q : VK) (E : XK), Room k (A.deeper (envOfC qual scope s.heap.objs.size f cdv)) → sp vs H Q E →
      ∃ t, PSs (cxOf CX0 P w K mg base N qual scope f cdv A outer s H E).nox body t ∧ t { nx := fun _ H' => Q .non H', rt := Q } (start N vs) H) : FnOk P w K mg base CX0 (k + 1) f fd ps sp :=
  F.ok S len fun cdv A outer s H vs Q E hr hsp => by
    obtain ⟨t, h, q⟩ := hbody cdv A outer s H vs Q E hr hsp
    exact ⟨t, h.nox, q⟩
/-- a def some of whose last parameters are left out -/
structure CalD (P : Program) (w : World) (K : PySem.W.Frag) (mg : Str → Option Value) (base : Heap) (k : Nat) (x : Str) (ps : List Str) (sp : Sp) (dvs : List V) : Prop where
  ex : ∃ (f : Addr) (fd : FuncData) (ds : List Value), FnOk P w K mg base CX0 k f fd ps sp ∧ mg x = some (.ref f) ∧ PySem.W.keepIn K (.ref f) = true ∧ Vals dvs ds ∧ Binds K fd ps ds
theorem pe_ownD {X : Cx} {x : Str} {k : Nat} {ps : List Str} {sp : Sp} {dvs : List V} {e : Expr} {es : List Expr} {t : TA} {p pos : Pos} (C : CalD X.prog X.w X.K X.mg X.base k x ps sp dvs) (hr : Room k X.A) (hg : Gl X x) (ha : PA X (e :: es) t) (hdb : (x == ("__debug__" : Str)) = false := by decide)
    (he : starEach (e :: es) X.env = (false, eval e X.env) :: starEach es X.env := by rfl) (hpl : (backTo pos (starEach es X.env)).any (·.1) = false := by rfl) : PE X (.Call (.Name x p) (e :: es) [] pos) (L2.tCall sp dvs E0 t) := by
  obtain ⟨f, fd, ds, F, m, kp, r, b⟩ := C.ex
  exact pe_call F hr hg m kp b r pass0 ha hdb he hpl
/-- the parameters of a drawn procedure -/
def lettW : List Str := ["x", "y", "abcdefgh"]
def ownW (ks : List Bool) : List (Str × Bool) := lettW.zip ks
theorem zip_fst {α β : Type} : ∀ (xs : List α) (ys : List β), (xs.zip ys).map (·.1) = xs.take ys.length
  | [], ys => by cases ys <;> rfl
  | x :: xs, [] => rfl
  | x :: xs, y :: ys => by
    rw [List.zip_cons_cons, List.map_cons, List.length_cons, List.take_succ_cons, zip_fst xs ys]
theorem zip_snd {α β : Type} : ∀ (xs : List α) (ys : List β), ys.length ≤ xs.length → (xs.zip ys).map (·.2) = ys
  | [], [], _ => rfl
  | [], _ :: _, h => absurd h (Nat.not_succ_le_zero _)
  | x :: xs, [], _ => rfl
  | x :: xs, y :: ys, h => by
    rw [List.zip_cons_cons, List.map_cons, zip_snd xs ys (Nat.le_of_succ_le_succ h)]
theorem ownW_ok (ks : List Bool) : ParOk (ownW ks) := by
  have e := zip_fst lettW ks
  have l3 : lettW.length = 3 := rfl
  refine ⟨?_, fun p hp => ?_, ?_⟩
  · unfold ownW
    rw [List.length_zip]
    omega
  · have m : p.1 ∈ (lettW.zip ks).map (·.1) := List.mem_map_of_mem hp
    rw [e] at m
    have all : ∀ z ∈ lettW, wordB z = true := by decide +kernel
    exact all _ (List.mem_of_mem_take m)
  · show ((lettW.zip ks).map (·.1)).Nodup
    rw [e]
    have nd : lettW.Nodup := by decide +kernel
    exact nd.sublist (List.take_sublist _ _)
theorem ownW_kinds {ks : List Bool} (h : ks.length ≤ 3) : (ownW ks).map (·.2) = ks := zip_snd lettW ks h
def tbW (hs : List (Str × List Bool)) : Tbl := ("main", []) :: hs.map fun p => (p.1, ownW p.2)
/-- the heads of a wild program -/
structure HeadsW (m : Int) (hs : List (Str × List Bool)) : Prop where
  nms : ∃ r : Nat, 1 ≤ r ∧ r ≤ 3 ∧ hs.map (·.1) = (["f", "g", "twice"] : List Str).take r
  two : ∀ p ∈ hs, p.2.length ≤ 2
  wr : m = 3 → ∀ p ∈ hs, ∀ b ∈ p.2, b = false
section
variable {m : Int} {hs : List (Str × List Bool)}
theorem HeadsW.all (h : HeadsW m hs) : (("main" : Str) :: hs.map (·.1)).Nodup ∧ (∀ z ∈ hs.map (·.1), wordB z = true) ∧ hs ≠ [] ∧ hs.length ≤ 3 := by
  obtain ⟨r, r1, r3, e⟩ := h.nms
  have l : hs.length = ((["f", "g", "twice"] : List Str).take r).length := by rw [← e, List.length_map]
  rw [e]
  have l3 : ((["f", "g", "twice"] : List Str).take r).length = min r 3 := by rw [List.length_take]; rfl
  refine ⟨?_, fun z hz => ?_, fun q => ?_, by omega⟩
  · match r, r1, r3 with
    | 1, _, _ => decide +kernel
    | 2, _, _ => decide +kernel
    | 3, _, _ => decide +kernel
  · have all : ∀ z ∈ (["f", "g", "twice"] : List Str), wordB z = true := by decide +kernel
    exact all _ (List.mem_of_mem_take hz)
  · rw [q] at l
    have : ([] : List (Str × List Bool)).length = 0 := rfl
    omega
theorem HeadsW.nd (h : HeadsW m hs) : (hs.map (·.1)).Nodup := (List.nodup_cons.mp h.all.1).2
theorem tbW_nd (h : HeadsW m hs) : ((tbW hs).map (·.1)).Nodup := by
  have e : (tbW hs).map (·.1) = ("main" : Str) :: hs.map (·.1) := by
    show ("main" : Str) :: (hs.map fun p => (p.1, ownW p.2)).map (·.1) = _
    rw [List.map_map]
    rfl
  rw [e]
  exact h.all.1
theorem tbW_mem {x : Str} {ks : List Bool} (h : (x, ks) ∈ hs) : (x, ownW ks) ∈ tbW hs := List.mem_cons_of_mem _ (List.mem_map_of_mem (f := fun p : Str × List Bool => (p.1, ownW p.2)) h)
theorem HeadsW.hok (h : HeadsW m hs) : ∀ x ks, (x, ks) ∈ hs → wordB x = true ∧ ((tbW hs).lookup x).map (fun o => o.map (·.2)) = some ks ∧ ks.length ≤ 2 := fun x ks hm => by
  have h2 := h.two _ hm
  refine ⟨h.all.2.1 _ (List.mem_map_of_mem (f := (·.1)) hm), ?_, h2⟩
  rw [look_nd (tbW_nd h) (tbW_mem hm)]
  show some ((ownW ks).map (·.2)) = some ks
  rw [ownW_kinds (by show ks.length ≤ 3; have : ks.length ≤ 2 := h2; omega)]
end
/-- tuples of kinds -/
def KsL (K : PySem.W.Frag) (H : Hp) (w : Bool) (vs : List V) : Prop := ∀ v ∈ vs, ∃ ks : List Bool, Dp K H v (kindsD ks) ∧ ks.length ≤ 2 ∧ (w = false → ∀ b ∈ ks, b = false)
theorem KsL.tk {K : PySem.W.Frag} {H H' : Hp} {w : Bool} {vs : List V} (e : TK H H') (h : KsL K H w vs) : KsL K H' w vs := fun v hv => by
  obtain ⟨ks, h1, h2, h3⟩ := h v hv
  exact ⟨ks, Dp.tk e (kindsD_noL _) h1, h2, h3⟩
theorem HdV.put {K : PySem.W.Frag} {H : Hp} {kvs : List (Key × V)} {hs : List (Str × List Bool)} (t : HdV K H kvs hs) {x : Str} {v : V} {ks : List Bool} (h : Dp K H v (kindsD ks)) (ne : x ∉ hs.map (·.1)) : HdV K H (putK kvs (Sum.inr x) v) (hs ++ [(x, ks)]) := by
  unfold putK
  by_cases e : (kvs.any fun kv => decide (kv.1 = Sum.inr x)) = true
  · obtain ⟨kv, hkv, hx⟩ := List.any_eq_true.mp e
    have hm : (Sum.inr x : Key) ∈ kvs.map (·.1) := by
      rw [← of_decide_eq_true hx]
      exact List.mem_map_of_mem hkv
    rw [t.keys] at hm
    obtain ⟨z, hz, ez⟩ := List.mem_map.mp hm
    rw [Sum.inr.inj ez] at hz
    exact absurd hz ne
  · rw [if_neg e]
    exact t.app (.cons h .nil)
theorem nd_take {xs : List Str} (nd : xs.Nodup) {i : Nat} {x : Str} (h : xs[i]? = some x) : x ∉ xs.take i := fun hm => by
  have hw : xs.take (i + 1) = xs.take i ++ [x] := take_more h
  have := nd.sublist (List.take_sublist (i + 1) xs)
  rw [hw] at this
  exact (List.nodup_append.mp this).2.2 _ hm _ List.mem_cons_self rfl
theorem mem_rows {hs : List (Str × List Bool)} {x : Str} {ks : List Bool} {C : Str × List Bool → Prop} (h : ∀ p ∈ hs, C p) (c : C (x, ks)) : ∀ p ∈ hs ++ [(x, ks)], C p := fun p hp => by
  rcases List.mem_append.mp hp with hp | hp
  · exact h p hp
  · rw [List.mem_singleton.mp hp]
    exact c
/-- pairs side by side are parameters -/
theorem own_dp {K : PySem.W.Frag} {H H' : Hp} : ∀ (xs : List Str) (ys : List V) (ks : List Bool) (ts : List Addr), DpAll K H ys (ks.map fun b => .str (kd b)) → Paired (fun (t : Addr) (q : V × V) => H' t = some (.tup [q.1, q.2])) ts ((xs.map V.str).zip ys) → DpAll K H' (ts.map V.ref) ((xs.zip ks).map parD)
  | [], ys, ks, ts, _, p => by
    cases ks <;> cases ys <;> cases p <;> exact .nil
  | x :: xs, [], ks, ts, d, p => by
    cases ks with
    | nil => cases p; exact .nil
    | cons _ _ => cases d
  | x :: xs, y :: ys, [], ts, d, p => by cases d
  | x :: xs, y :: ys, k :: ks, ts, d, p => by
    cases d with
    | cons d1 d2 =>
      cases Dp.str_inv d1
      cases p with
      | cons p1 p2 => exact .cons (.tup (.inl (.inl p1)) (.cons (.str _) (.cons (.str _) .nil))) (own_dp xs ys ks _ d2 p2)
/-- the row of a name -/
def rowW (hs : List (Str × List Bool)) (n : Str) : Str × List (Str × Bool) := (n, ownW ((hs.lookup n).getD []))
theorem lookH {hs : List (Str × List Bool)} (nd : (hs.map (·.1)).Nodup) {x : Str} {ks : List Bool} (h : (x, ks) ∈ hs) : hs.lookup x = some ks := by
  induction hs with
  | nil => cases h
  | cons p r ih =>
    obtain ⟨n1, n2⟩ := List.nodup_cons.mp nd
    obtain ⟨y, q⟩ := p
    simp only [List.lookup]
    rcases List.mem_cons.mp h with e | h
    · cases e
      rw [show (x == x) = true from beq_self_eq_true x]
    · have ne : x ≠ y := fun z => n1 (List.mem_map.mpr ⟨_, h, z⟩)
      rw [show (x == y) = false by simpa using ne]
      exact ih n2 h
theorem wild_ok {m : Int} {hs : List (Str × List Bool)} {ns : List Str} {us : List RowU} {d c : Nat} {K : PySem.W.Frag} {H : Hp} {rs : List Addr} (hw : HeadsW m hs) (m1 : 1 ≤ m) (m3 : m ≤ 3) (pm : ns.Perm (hs.map (·.1))) (em : us.map (fun u => (u.1, u.2.1)) = (("main" : Str), []) :: ns.map (rowW hs)) (rw0 : RowsT K H m (tbW hs) d c rs us) : ProgOk m (tbW hs) us := by
  obtain ⟨a1, a2, a3, a4⟩ := hw.all
  have lu : us.length = ns.length + 1 := by
    have := congrArg List.length em
    simpa using this
  have ln : ns.length = hs.length := by rw [pm.length_eq, List.length_map]
  have e1 : us.map (·.1) = ("main" : Str) :: ns := by
    have := congrArg (List.map (·.1)) em
    rw [List.map_map, List.map_cons, List.map_map] at this
    rw [show us.map (·.1) = us.map ((fun p : Str × List (Str × Bool) => p.1) ∘ fun u : RowU => (u.1, u.2.1)) from rfl, this]
    exact congrArg _ (List.map_id _)
  have nd : (("main" : Str) :: ns).Nodup := (List.Perm.cons _ pm).nodup_iff.mpr a1
  have ndT : ((us.map fun u => (u.1, u.2.1)).map (·.1)).Nodup := by
    rw [List.map_map]
    show (us.map (·.1)).Nodup
    rw [e1]
    exact nd
  refine ⟨m1, m3, by omega, by rw [e1]; exact nd, by rw [em]; rfl, fun e => ?_, fun x o h => ?_, fun u hu => (rw0.all u hu).1⟩
  · unfold wrapsIn
    rw [List.any_eq_false]
    intro u hu
    have mu : (u.1, u.2.1) ∈ us.map (fun u => (u.1, u.2.1)) := List.mem_map_of_mem (f := fun u : RowU => (u.1, u.2.1)) hu
    rw [em] at mu
    have hk : ∀ q ∈ u.2.1, q.2 = false := by
      rcases List.mem_cons.mp mu with z | z
      · have : u.2.1 = [] := congrArg Prod.snd z
        rw [this]
        exact fun _ h => nomatch h
      · obtain ⟨n, hn, z⟩ := List.mem_map.mp z
        obtain ⟨⟨n', ks⟩, hm, rfl⟩ := List.mem_map.mp (pm.mem_iff.mp hn)
        have z2 : ownW ((hs.lookup n').getD []) = u.2.1 := congrArg Prod.snd z
        rw [lookH hw.nd hm] at z2
        intro q hq
        rw [← z2] at hq
        exact hw.wr e _ hm _ (List.of_mem_zip hq).2
    simp only [Bool.not_eq_true]
    rw [List.any_eq_false]
    intro q hq
    rw [hk q hq]
    exact Bool.false_ne_true
  · refine look_nd ndT ?_
    rw [em]
    have hmem : (x, o) ∈ tbW hs := look_mem h
    rcases List.mem_cons.mp hmem with z | z
    · rw [z]; exact List.mem_cons_self
    · obtain ⟨⟨n, ks⟩, hm, z⟩ := List.mem_map.mp z
      refine List.mem_cons_of_mem _ (List.mem_map.mpr ⟨n, pm.mem_iff.mpr (List.mem_map_of_mem (f := (·.1)) hm), ?_⟩)
      unfold rowW
      rw [lookH hw.nd hm]
      exact z
/-- rows as drawn: a program can be made of them -/
def spPlainK (K : PySem.W.Frag) (x : List V) : Sp := fun vs H Q _ => ∃ D, vs = .ref D :: x ∧ Die H D ∧ ∀ (H' : Hp) (p rl : Addr) (m : Nat) (rs : List Addr) (us : List RowU) (tb : Tbl), Go D H H' → H' p = some (.lst [.int (m : Int), .ref rl]) → H' rl = some (.lst (rs.map V.ref)) → RowsT K H' (m : Int) tb 6 40 rs us → ProgOk (m : Int) tb us → p ≠ D → rl ≠ D → Q (.ref p) H'
def spMadeK (K : PySem.W.Frag) (CP C : Addr) : Sp := fun vs H Q _ => ∃ (p rl : Addr) (m : Nat) (tb : Tbl) (rs : List Addr) (us : List RowU), vs = [.ref p] ∧ H p = some (.lst [.int (m : Int), .ref rl]) ∧ H rl = some (.lst (rs.map V.ref)) ∧ RowsT K H (m : Int) tb 6 40 rs us ∧ ProgOk (m : Int) tb us ∧ ∀ H' a xs, Same H H' → H a = none → PgX K CP C H' a (m : Int) us xs → Q (.ref a) H'
end FS
set_option Elab.async false
set_option linter.all false
set_option maxRecDepth 100000
set_option maxHeartbeats 4000000
/-! contexts judged: what the law keeps, promises -/
namespace FS
open PySem PySem.Spec PyProof.Rows L2
/-- names with their parameters (and bodies) -/
inductive PV (K : PySem.W.Frag) (H : Hp) : List (Key × V) → List RowU → Prop
  | nil : PV K H [] []
  | cons {t : Addr} {ov bv : V} {u : RowU} {kvs : List (Key × V)} {us : List RowU} (h : SqT K H t [ov, bv]) (p : Dp K H ov (parsD u.2.1)) (po : ParOk u.2.1) (wd : wordB u.1 = true) (r : PV K H kvs us) : PV K H ((Sum.inr u.1, .ref t) :: kvs) (u :: us)
section
variable {K : PySem.W.Frag} {H H' : Hp} {kvs : List (Key × V)} {us : List RowU}
theorem PV.tk (e : TK H H') (t : PV K H kvs us) : PV K H' kvs us := by
  induction t with
  | nil => exact .nil
  | cons h p po wd _ ih => exact .cons (e.sqT h) (Dp.tk e (pars_noL _) p) po wd ih
theorem PV.keys (t : PV K H kvs us) : kvs.map (·.1) = (us.map (·.1)).map Sum.inr := by
  induction t with
  | nil => rfl
  | cons _ _ _ _ _ ih => rw [List.map_cons, ih]; rfl
theorem PV.len (t : PV K H kvs us) : kvs.length = us.length := by
  induction t with
  | nil => rfl
  | cons _ _ _ _ _ ih => rw [List.length_cons, List.length_cons, ih]
theorem PV.app (t : PV K H kvs us) {q : Addr} {ov bv : V} {u : RowU} (h : SqT K H q [ov, bv]) (p : Dp K H ov (parsD u.2.1)) (po : ParOk u.2.1) (wd : wordB u.1 = true) : PV K H (kvs ++ [(Sum.inr u.1, .ref q)]) (us ++ [u]) := by
  induction t with
  | nil => exact .cons h p po wd .nil
  | cons h' p' po' wd' _ ih => exact .cons h' p' po' wd' ih
theorem PV.get (t : PV K H kvs us) (z : Str) : (valV kvs (Sum.inr z) = none ∧ (ktOf us).lookup z = none ∧ z ∉ us.map (·.1)) ∨
    ∃ (t : Addr) (ov bv : V) (u : RowU), valV kvs (Sum.inr z) = some (.ref t) ∧ SqT K H t [ov, bv] ∧ Dp K H ov (parsD u.2.1) ∧ ParOk u.2.1 ∧ wordB u.1 = true ∧ u.1 = z ∧ (ktOf us).lookup z = some (u.2.1.map (·.2)) := by
  induction t with
  | nil => exact .inl ⟨rfl, rfl, fun h => nomatch h⟩
  | @cons t ov bv u kvs us h p po wd r ih =>
    by_cases e : u.1 = z
    · refine .inr ⟨t, ov, bv, u, valV_pos (by rw [e]), h, p, po, wd, e, ?_⟩
      show List.lookup z ((u.1, u.2.1.map (·.2)) :: ktOf us) = _
      simp only [List.lookup]
      rw [show (z == u.1) = true by rw [e]; exact beq_self_eq_true z]
    · have eb : (z == u.1) = false := by simpa using fun q : z = u.1 => e q.symm
      have el : (ktOf (u :: us)).lookup z = (ktOf us).lookup z := by
        show List.lookup z ((u.1, u.2.1.map (·.2)) :: ktOf us) = _
        simp only [List.lookup]
        rw [eb]
      have ev : valV ((Sum.inr u.1, V.ref t) :: kvs) (Sum.inr z) = valV kvs (Sum.inr z) := valV_neg (fun q => e (Sum.inr.inj q))
      rcases ih with ⟨h1, h2, h3⟩ | ⟨t', ov', bv', u', h1, h2, h3, h4, h5, h6, h7⟩
      · refine .inl ⟨by rw [ev]; exact h1, by rw [el]; exact h2, fun q => ?_⟩
        rw [List.map_cons] at q
        rcases List.mem_cons.mp q with q | q
        · exact e q.symm
        · exact h3 q
      · exact .inr ⟨t', ov', bv', u', by rw [ev]; exact h1, h2, h3, h4, h5, h6, by rw [el]; exact h7⟩
end
theorem merge_nd : ∀ (kvs acc : List (Key × V)), ((acc ++ kvs).map (·.1)).Nodup → mergeK acc kvs = acc ++ kvs
  | [], acc, _ => (List.append_nil acc).symm
  | (k, v) :: r, acc, nd => by
    have fr : k ∉ acc.map (·.1) := fun z => by
      rw [List.map_append] at nd
      exact (List.nodup_append.mp nd).2.2 _ z _ List.mem_cons_self rfl
    have e : acc ++ (k, v) :: r = (acc ++ [(k, v)]) ++ r := by rw [List.append_assoc]; rfl
    rw [e] at nd ⊢
    show mergeK (putK acc k v) r = _
    rw [putK_new fr]
    exact merge_nd r _ nd
def spByNameL (K : PySem.W.Frag) : Sp := fun vs H Q _ => ∃ (p rl : Addr) (m : Nat) (tb : Tbl) (rs : List Addr) (us : List RowU), vs = [.ref p] ∧ H p = some (.lst [.int (m : Int), .ref rl]) ∧ H rl = some (.lst (rs.map V.ref)) ∧ RowsT K H (m : Int) tb 6 40 rs us ∧ us.length ≤ 8 ∧ (us.map (·.1)).Nodup ∧
  ∀ (H' : Hp) (q : Addr) (kvs : List (Key × V)), Same H H' → H q = none → H' q = some (.dK kvs) → PV K H' kvs us → Q (.ref q) H'
/-- powers of two, to the n-th -/
def powL (n : Nat) : List V := (List.range (n + 1)).map fun i => V.int ((2 ^ i : Nat) : Int)
theorem powL_last (n : Nat) : atI (powL n) (-1) = some (.int ((2 ^ n : Nat) : Int)) := by
  have e : powL n = (List.range n).map (fun i => V.int ((2 ^ i : Nat) : Int)) ++ [.int ((2 ^ n : Nat) : Int)] := by
    unfold powL
    rw [List.range_succ, List.map_append]
    rfl
  rw [e]
  exact atI_last _ _
theorem powL_snoc (n : Nat) : powL (n + 1) = powL n ++ [.int ((2 ^ (n + 1) : Nat) : Int)] := by
  unfold powL
  rw [List.range_succ (n := n + 1), List.map_append]
  rfl
theorem powL_len (n : Nat) : (powL n).length = n + 1 := by
  unfold powL
  rw [List.length_map, List.length_range]
def spPow : Sp := fun vs H Q _ => ∃ n : Nat, vs = [.int (n : Int)] ∧ n ≤ 12 ∧ ∀ H' p, Same H H' → H p = none → H' p = some (.lst (powL n)) → Q (.ref p) H'
def spSpaceL : Sp := fun vs H Q _ => ∃ (m : Nat) (b : Bool), vs = [.int (m : Int), .bl b] ∧ 1 ≤ m ∧ m ≤ 3 ∧ ∀ H' p pl, Same H H' → H p = none → H pl = none → H' pl = some (.lst (powL (m * SQ.en m b))) → H' p = some (.lst [.int (m : Int), .int (SQ.en m b : Nat), .ref pl]) → Q (.ref p) H'
def codL (pd sl : Addr) (w : V) : List (Key × V) := [(Sum.inr "procs", .ref pd), (Sum.inr "space", .ref sl), (Sum.inr "word", w)]
def CodeAt (K : PySem.W.Frag) (D : Addr) (H : Hp) (c : Addr) (m : Nat) (b : Bool) (us : List RowU) : Prop :=
  ∃ (pd sl pl : Addr) (w : V) (kvs : List (Key × V)), H c = some (.dK (codL pd sl w)) ∧ H pd = some (.dK kvs) ∧ PV K H kvs us ∧ H sl = some (.lst [.int (m : Int), .int (SQ.en m b : Nat), .ref pl]) ∧ H pl = some (.lst (powL (m * SQ.en m b))) ∧ sl ≠ D ∧ pl ≠ D ∧ 1 ≤ m ∧ m ≤ 3
theorem CodeAt.same {K : PySem.W.Frag} {D : Addr} {H H' : Hp} {c : Addr} {m : Nat} {b : Bool} {us : List RowU} (x : CodeAt K D H c m b us) (s : Same H H') : CodeAt K D H' c m b us := by
  obtain ⟨pd, sl, pl, w, kvs, h1, h2, h3, h4, h5, h6⟩ := x
  exact ⟨pd, sl, pl, w, kvs, s _ _ h1, s _ _ h2, h3.tk (.of s), s _ _ h4, s _ _ h5, h6⟩
theorem CodeAt.go {K : PySem.W.Frag} {D : Addr} {H H' : Hp} {c : Addr} {m : Nat} {b : Bool} {us : List RowU} (x : CodeAt K D H c m b us) (d : Die H D) (g : Go D H H') : CodeAt K D H' c m b us := by
  obtain ⟨pd, sl, pl, w, kvs, h1, h2, h3, h4, h5, h6, h7, h8⟩ := x
  have nd : ∀ {a : Addr} {k : List (Key × V)}, H a = some (.dK k) → a ≠ D := fun {a k} e z => by
    obtain ⟨xx, yy, zz, q⟩ := d
    rw [← z, e] at q
    cases q
  exact ⟨pd, sl, pl, w, kvs, g.1 _ _ (nd h1) h1, g.1 _ _ (nd h2) h2, h3.tk (g.tk d), g.1 _ _ h6 h4, g.1 _ _ h7 h5, h6, h7, h8⟩
def spCodeL (K : PySem.W.Frag) : Sp := fun vs H Q _ => ∃ (D p rl : Addr) (m : Nat) (tb : Tbl) (rs : List Addr) (us : List RowU) (w : V), vs = [.ref p, w] ∧ Die H D ∧ H p = some (.lst [.int (m : Int), .ref rl]) ∧ H rl = some (.lst (rs.map V.ref)) ∧ RowsT K H (m : Int) tb 6 40 rs us ∧ us.length ≤ 8 ∧ (us.map (·.1)).Nodup ∧ OptW w ∧ 1 ≤ m ∧ m ≤ 3 ∧
  ∀ (H' : Hp) (c : Addr), Same H H' → CodeAt K D H' c m (wdB w) us → Q (.ref c) H'
def spIsRelL (K : PySem.W.Frag) : Sp := fun vs H Q _ => ∃ (D c : Addr) (m : Nat) (b : Bool) (us : List RowU) (v : V) (d : Dat), vs = [.ref c, v] ∧ CodeAt K D H c m b us ∧ At K H D v d ∧ Q (.bl (relB (szN m b) d)) H
def spIsMeanL (K : PySem.W.Frag) : Sp := fun vs H Q _ => ∃ (D c : Addr) (m : Nat) (b k : Bool) (us : List RowU) (v : V) (d : Dat), vs = [.ref c, .str (kd k), v] ∧ CodeAt K D H c m b us ∧ At K H D v d ∧ d.wide ≤ 5000 ∧ ∀ H', Same H H' → Q (.bl (meanB (szN m b) k d)) H'
def spDueC (K : PySem.W.Frag) : Sp := fun vs H Q _ => ∃ (D c : Addr) (m : Nat) (b : Bool) (us : List RowU) (v : V) (d : Dat), vs = [.ref c, v] ∧ CodeAt K D H c m b us ∧ At K H D v d ∧ d.wide ≤ 5000 ∧ ∀ H', Same H H' → Q (.bl (ctxB (ktOf us) (szN m b) d)) H'
def spValsC (K : PySem.W.Frag) : Sp := fun vs H Q _ => ∃ (D c : Addr) (m : Nat) (b : Bool) (us : List RowU), vs = [.ref D, .ref c] ∧ Die H D ∧ CodeAt K D H c m b us ∧ us.length ≤ 8 ∧ (us.map (·.1)).Nodup ∧
  ∀ (H' : Hp) (p : Addr) (xs : List V) (ds : List Dat), Go D H H' → H' p = some (.lst xs) → AtAll K H' D xs ds → (∀ d ∈ ds, d.wide ≤ 5000) → xs.length ≤ 1000 → p ≠ D → Q (.ref p) H'
theorem code_space {pd sl : Addr} {w : V} {H : Hp} {c : Addr} (e : H c = some (.dK (codL pd sl w))) : DGet H c (.str "space") (some (.ref sl)) := DGet.k (k := Sum.inr "space") e
theorem code_procs {pd sl : Addr} {w : V} {H : Hp} {c : Addr} (e : H c = some (.dK (codL pd sl w))) : DGet H c (.str "procs") (some (.ref pd)) := DGet.k (k := Sum.inr "procs") e
end FS
namespace FS
open PySem PySem.Spec PyProof.Rows L2
theorem nodup_inr {xs : List Str} (nd : xs.Nodup) : (xs.map (Sum.inr : Str → Key)).Nodup := List.pairwise_map.mpr (nd.imp fun h e => h (Sum.inr.inj e))
theorem paired_len {α β : Type} {R : α → β → Prop} {xs : List α} {ys : List β} (p : Paired R xs ys) : xs.length = ys.length := Paired.length p
end FS
set_option Elab.async false
set_option linter.all false
set_option maxRecDepth 100000
set_option maxHeartbeats 4000000
namespace FS
open PySem PySem.Spec PyProof.Rows L2
theorem means_snoc {N : Nat} : ∀ (ks : List Bool) (ds : List Dat) (k : Bool) (d : Dat), ks.length = ds.length → meansB N (ks ++ [k]) (ds ++ [d]) = (meansB N ks ds && meanB N k d)
  | [], [], k, d, _ => by
    show (meanB N k d && meansB N [] []) = (true && meanB N k d)
    rw [Bool.true_and]
    exact Bool.and_true _
  | [], _ :: _, _, _, h => by cases h
  | _ :: _, [], _, _, h => by cases h
  | x :: ks, y :: ds, k, d, h => by
    show (meanB N x y && meansB N (ks ++ [k]) (ds ++ [d])) = ((meanB N x y && meansB N ks ds) && meanB N k d)
    rw [means_snoc ks ds k d (Nat.succ.inj h), Bool.and_assoc]
theorem par_open {K : PySem.W.Frag} {H : Hp} {v : V} {p : Str × Bool} (h : Dp K H v (parD p)) : ∃ a, v = .ref a ∧ SqT K H a [.str p.1, .str (kd p.2)] := by
  obtain ⟨a, xs, rfl, sq, r⟩ := Dp.tup_inv (show Dp K H v (.tuple [.str p.1, .str (kd p.2)]) from h)
  cases r with
  | cons h1 r => cases r with
    | cons h2 r =>
    cases r
    cases Dp.str_inv h1
    cases Dp.str_inv h2
    exact ⟨a, rfl, sq⟩
end FS
set_option Elab.async false
set_option linter.all false
set_option maxRecDepth 100000
set_option maxHeartbeats 4000000
/-! values of all kinds that are drawn: lists apart from some addresses; one thing many times -/
namespace FS
open PySem PySem.Spec PyProof.Rows L2
/-- one thing, many times -/
def rRepB (K : PySem.W.Frag) : R2 := fun x y H Q => ∃ (l : Addr) (k : Nat) (z : V), x = .ref l ∧ y = .int (k : Int) ∧ SqT K H l [z] ∧ 1 ≤ k ∧ k ≤ 5000 ∧ ∀ p H', Same H H' → SqT K H' p (List.replicate k z) → Q (.ref p) H'
theorem flat_one {z : V} : ∀ k : Nat, (List.replicate k [z]).flatten = List.replicate k z
  | 0 => rfl
  | k + 1 => by rw [List.replicate_succ, List.flatten_cons, flat_one k]; rfl
section
variable {X : Cx}
theorem op_repB : OpR X (binaryOp .Mult) (rRepB X.K) := by
  intro pins s σ H x y v u Q I rx ry h
  obtain ⟨l, k, z, rfl, rfl, hT, hk1, hk, q⟩ := h
  cases rx
  obtain ⟨t, rfl⟩ := ry
  obtain ⟨its, r, ⟨⟨cls, dd, data, sl⟩, ho, hc, n, hd⟩, hs⟩ := I.tuple hT
  simp only at hc hd
  subst hc hd
  have hle : its.length = 1 := r.length.symm
  have hi : its.toArray.isEmpty = false := by
    cases its with
    | nil => cases hle
    | cons a b => rfl
  by_cases h2 : 2 ≤ k
  · have hsz0 : its.toArray.size = 1 := by rw [List.size_toArray, hle]
    have flen : (List.replicate k its).flatten.length ≤ sizeLine := by
      rw [PyProof.Rows.lm_len_rep_flat, hle, sizeLine_eq]
      omega
    have kk : ((k : Int)).toNat = k := by omega
    have c0 : (decide ((k : Int) < -(2 ^ 63)) || decide ((k : Int) ≥ 2 ^ 63)) = false := by
      rw [decide_eq_false (by omega), decide_eq_false (by omega)] <;> rfl
    have c1 : (its.toArray.isEmpty || (k : Int) == 1) = false := by
      rw [hi, Bool.false_or]
      exact beq_eq_false_iff_ne.mpr (by omega)
    have c2 : (decide ((k : Int) ≤ 0) || its.toArray.isEmpty) = false := by
      rw [hi, Bool.or_false]
      exact decide_eq_false (by omega)
    have c4 : Builtin.Tuple.tupleTooMany (((its.toArray.size : Nat) : Int) * (k : Int)) = false := by
      unfold Builtin.Tuple.tupleTooMany
      rw [sizeLine_eq]
      exact decide_eq_false (by rw [hsz0]; omega)
    refine wpAny_binaryOp_repeat_ref (T := "tuple") (U := "int") (by decide) ⟨_, ho, rfl⟩ (fun s' => typeIs_int s' _ t) noFill_tuple_mul F.fills_int_mul F.slot_int_rmul repeat_tuple F.slot_int_index.lookup
      (call_meets F.slot_int_rmul (typeIs_int s _ t) F.entry_int_rmul (F.args_int_rmul_2 _ _) (int_rmul_tuple _ t l its.toArray n dd sl)
        ⟨ho, rfl, ⟨_, ho, rfl⟩, call_meets F.slot_tuple_mul ⟨_, ho, rfl⟩ F.entry_tuple_mul (F.args_tuple_mul_2 _ _) (tuple_mulW l its.toArray n dd sl _ t c0 c1 c2 (by rw [hsz0]; omega) c4 (by rw [size_rep, List.size_toArray, kk]; exact flen)) ⟨ho, ?_⟩⟩)
    rw [size_rep, kk]
    have np : H s.heap.objs.size = none := I.hok.fresh (Nat.le_refl _)
    refine ⟨.ref s.heap.objs.size, _, I.laid (t' := s.toks) (o := .tup (List.replicate k [z]).flatten) (fun b ob q => Heap.get?_push_of_some _ q) (Nat.le_refl _) ?_, rfl, q _ _ (same_upd np) (.inl (.inl (by rw [upd_same, flat_one])))⟩
    exact ⟨by rw [PyProof.Rows.lm_len_rep_flat, sizeLine_eq]; simp only [List.length_cons, List.length_nil]; omega, _, r.rep k, IsTup.new _ _⟩
  · have k1 : k = 1 := by omega
    subst k1
    refine wpAny_binaryOp_repeat_ref (T := "tuple") (U := "int") (by decide) ⟨_, ho, rfl⟩ (fun s' => typeIs_int s' _ t) noFill_tuple_mul F.fills_int_mul F.slot_int_rmul repeat_tuple F.slot_int_index.lookup
      (call_meets F.slot_int_rmul (typeIs_int s _ t) F.entry_int_rmul (F.args_int_rmul_2 _ _) (int_rmul_tuple _ t l its.toArray n dd sl)
        ⟨ho, rfl, ⟨_, ho, rfl⟩, call_meets F.slot_tuple_mul ⟨_, ho, rfl⟩ F.entry_tuple_mul (F.args_tuple_mul_2 _ _) (mulTup1 l its.toArray n dd sl t hi) ⟨ho, ?_⟩⟩)
    exact ⟨.ref l, H, I, rfl, q l H (.refl _) hT⟩
end
/-! ### values -/
mutual
inductive AtS (K : PySem.W.Frag) (H : Hp) (S : List Addr) : V → Dat → Prop
  | non : AtS K H S .non .non
  | bl (b : Bool) : AtS K H S (.bl b) (.bl b)
  | int (i : Int) : AtS K H S (.int i) (.int i)
  | str (z : Str) (h : z.length ≤ 1000 ∧ PyData.strOk z = true) : AtS K H S (.str z) (.str z)
  | tup {a : Addr} {xs : List V} {ds : List Dat} (s : SqT K H a xs) (r : AtSs K H S xs ds) : AtS K H S (.ref a) (.tup ds)
  | lst {p : Addr} {xs : List V} (n : p ∉ S) (e : H p = some (.lst xs)) : AtS K H S (.ref p) .oth
inductive AtSs (K : PySem.W.Frag) (H : Hp) (S : List Addr) : List V → List Dat → Prop
  | nil : AtSs K H S [] []
  | cons {v : V} {d : Dat} {vs : List V} {ds : List Dat} (h : AtS K H S v d) (r : AtSs K H S vs ds) : AtSs K H S (v :: vs) (d :: ds)
end
section
variable {K : PySem.W.Frag} {H H' : Hp} {S S' : List Addr}
mutual
theorem AtS.keep (k : TK H H') (g : ∀ b o, b ∉ S → H b = some o → H' b = some o) (f : ∀ a, a ∈ S' → a ∈ S ∨ H a = none) : ∀ {v : V} {d : Dat}, AtS K H S v d → AtS K H' S' v d
  | _, _, .non => .non
  | _, _, .bl b => .bl b
  | _, _, .int i => .int i
  | _, _, .str z h => .str z h
  | _, _, .tup s r => .tup (k.sqT s) (AtSs.keep k g f r)
  | _, _, .lst n e => .lst (fun h => by
      rcases f _ h with h | h
      · exact n h
      · rw [h] at e
        cases e) (g _ _ n e)
theorem AtSs.keep (k : TK H H') (g : ∀ b o, b ∉ S → H b = some o → H' b = some o) (f : ∀ a, a ∈ S' → a ∈ S ∨ H a = none) : ∀ {vs : List V} {ds : List Dat}, AtSs K H S vs ds → AtSs K H' S' vs ds
  | _, _, .nil => .nil
  | _, _, .cons h r => .cons (AtS.keep k g f h) (AtSs.keep k g f r)
end
mutual
theorem AtS.at_ {D : Addr} (m : D ∈ S) : ∀ {v : V} {d : Dat}, AtS K H S v d → At K H D v d
  | _, _, .non => .non
  | _, _, .bl b => .bl b
  | _, _, .int i => .int i
  | _, _, .str z h => .str z h
  | _, _, .tup s r => .tup s (AtSs.at_ m r)
  | _, _, .lst n e => .lst (fun h => n (by rw [h]; exact m)) e
theorem AtSs.at_ {D : Addr} (m : D ∈ S) : ∀ {vs : List V} {ds : List Dat}, AtSs K H S vs ds → AtAll K H D vs ds
  | _, _, .nil => .nil
  | _, _, .cons h r => .cons (AtS.at_ m h) (AtSs.at_ m r)
end
end
/-- a value, not too wide -/
def OkV (K : PySem.W.Frag) (H : Hp) (S : List Addr) (v : V) : Prop := ∃ d, AtS K H S v d ∧ d.wide ≤ 4200
def VL (K : PySem.W.Frag) (H : Hp) (S : List Addr) (xs : List V) : Prop := ∀ v ∈ xs, OkV K H S v
section
variable {K : PySem.W.Frag} {H H' : Hp} {S S' : List Addr} {v : V} {xs ys : List V} {D p : Addr}
theorem OkV.keep (x : OkV K H S v) (k : TK H H') (g : ∀ b o, b ∉ S → H b = some o → H' b = some o) (f : ∀ a, a ∈ S' → a ∈ S ∨ H a = none) : OkV K H' S' v := by
  obtain ⟨d, h, w⟩ := x
  exact ⟨d, h.keep k g f, w⟩
theorem OkV.same (x : OkV K H S v) (s : Same H H') : OkV K H' S v := x.keep (.of s) (fun b o _ e => s b o e) fun a h => .inl h
theorem VL.same (x : VL K H S xs) (s : Same H H') : VL K H' S xs := fun v h => (x v h).same s
theorem OkV.sub (x : OkV K H S v) (f : ∀ a, a ∈ S' → a ∈ S) : OkV K H S' v := x.keep (.refl H) (fun _ _ _ e => e) fun a h => .inl (f a h)
theorem VL.sub (x : VL K H S xs) (f : ∀ a, a ∈ S' → a ∈ S) : VL K H S' xs := fun v h => (x v h).sub f
theorem OkV.more (x : OkV K H S v) (n : H p = none) : OkV K H (p :: S) v := x.keep (.refl H) (fun _ _ _ e => e) fun a h => by
  rcases List.mem_cons.mp h with rfl | h
  · exact .inr n
  · exact .inl h
theorem VL.more (x : VL K H S xs) (n : H p = none) : VL K H (p :: S) xs := fun v h => (x v h).more n
theorem OkV.go (x : OkV K H S v) (m : D ∈ S) (d : Die H D) (g : Go D H H') : OkV K H' S v := x.keep (g.tk d) (fun b o n e => g.1 b o (fun z => n (by rw [z]; exact m)) e) fun a h => .inl h
theorem VL.go (x : VL K H S xs) (m : D ∈ S) (d : Die H D) (g : Go D H H') : VL K H' S xs := fun v h => (x v h).go m d g
/-- a list of S is changed -/
theorem OkV.set {zs ws : List V} (x : OkV K H S v) (m : p ∈ S) (e : H p = some (.lst zs)) : OkV K (upd H p (.lst ws)) S v := x.keep (TK.set e rfl) (fun b o n h => by
  rw [upd_ne (fun z => n (by rw [z]; exact m))]
  exact h) fun a h => .inl h
theorem VL.set {zs ws : List V} (x : VL K H S xs) (m : p ∈ S) (e : H p = some (.lst zs)) : VL K (upd H p (.lst ws)) S xs := fun v h => (x v h).set m e
theorem OkV.non : OkV K H S .non := ⟨_, .non, Nat.zero_le _⟩
theorem OkV.bl {b : Bool} : OkV K H S (.bl b) := ⟨_, .bl b, Nat.zero_le _⟩
theorem OkV.int {i : Int} : OkV K H S (.int i) := ⟨_, .int i, Nat.zero_le _⟩
theorem OkV.str {z : Str} (h : z.length ≤ 1000 ∧ PyData.strOk z = true) : OkV K H S (.str z) := ⟨_, .str z h, Nat.zero_le _⟩
theorem OkV.lst (n : p ∉ S) (e : H p = some (.lst xs)) : OkV K H S (.ref p) := ⟨_, .lst n e, Nat.zero_le _⟩
theorem VL.nil : VL K H S [] := fun v h => nomatch h
theorem VL.cons (h : OkV K H S v) (r : VL K H S xs) : VL K H S (v :: xs) := fun x hx => by
  rcases List.mem_cons.mp hx with rfl | hx
  · exact h
  · exact r x hx
theorem VL.app (h : VL K H S xs) (r : VL K H S ys) : VL K H S (xs ++ ys) := fun x hx => (List.mem_append.mp hx).elim (h x) (r x)
theorem VL.rep {k : Nat} (h : OkV K H S v) : VL K H S (List.replicate k v) := fun x hx => by
  rw [(List.mem_replicate.mp hx).2]
  exact h
theorem VL.dats : ∀ {xs : List V}, VL K H S xs → ∃ ds, AtSs K H S xs ds ∧ widesD ds ≤ 4200 ∧ ds.length = xs.length ∧ ∀ d ∈ ds, d.wide ≤ 4200
  | [], _ => ⟨[], .nil, Nat.zero_le _, rfl, fun d h => nomatch h⟩
  | x :: xs, h => by
    obtain ⟨d, h1, h2⟩ := h x List.mem_cons_self
    obtain ⟨ds, h3, h4, h5, h6⟩ := VL.dats (xs := xs) fun v hv => h v (List.mem_cons_of_mem _ hv)
    refine ⟨d :: ds, .cons h1 h3, ?_, by rw [List.length_cons, List.length_cons, h5], fun y hy => ?_⟩
    · rw [widesD]
      omega
    · rcases List.mem_cons.mp hy with rfl | hy
      · exact h2
      · exact h6 y hy
theorem OkV.tup {a : Addr} (s : SqT K H a xs) (h : VL K H S xs) (few : xs.length ≤ 4200) : OkV K H S (.ref a) := by
  obtain ⟨ds, h1, h2, h3, -⟩ := h.dats
  refine ⟨.tup ds, .tup s h1, ?_⟩
  rw [Dat.wide]
  omega
theorem VL.cut (h : VL K H S xs) (lo hi : Option Int) : VL K H S (cutV xs lo hi) := fun x hx => by
  unfold cutV at hx
  exact h x (List.mem_of_mem_drop (List.mem_of_mem_take hx))
theorem cut_le (xs : List V) (lo hi : Option Int) : (cutV xs lo hi).length ≤ xs.length := by
  unfold cutV
  rw [List.length_take, List.length_drop]
  omega
end
/-- xs + ys, ys not empty -/
theorem cat_tupR {K : PySem.W.Frag} {H : Hp} {a b : Addr} {xs ys : List V} {Q : VK} (sx : SqT K H a xs) (sy : SqT K H b ys) (hne : ys ≠ []) (hl : xs.length + ys.length < 16000) (q : ∀ H' p, Same H H' → SqT K H' p (xs ++ ys) → Q (.ref p) H') : rCatA K (.ref a) (.ref b) H Q := by
  refine ⟨a, b, xs, ys, rfl, rfl, sx, sy, Nat.le_of_lt (small16 hl), fun e => ?_, fun _ z => absurd z hne, fun _ _ p np => q _ p (same_upd np) (.inl (.inl upd_same))⟩
  subst e
  exact q H b (.refl H) sy
end FS
set_option Elab.async false
set_option linter.all false
set_option maxRecDepth 100000
set_option maxHeartbeats 4000000
namespace FS
open PySem PySem.Spec PyProof.Rows L2
/-- is_context(.., word=..) -/
structure CalW (P : Program) (w : World) (K : PySem.W.Frag) (mg : Str → Option Value) (base : Heap) (k : Nat) (x : Str) (ps : List Str) (n : Nat) (ks : List Str) (sp : Sp) : Prop where
  ex : ∃ (f : Addr) (fd : FuncData), FnOk P w K mg base CX0 k f fd ps sp ∧ mg x = some (.ref f) ∧ PySem.W.keepIn K (.ref f) = true ∧ KBn K fd ps n ks (fun us ws => us ++ ws) (fun vs zs => vs ++ zs)
theorem pe_ownW {X : Cx} {x : Str} {k n : Nat} {ps ks : List Str} {sp : Sp} {e : Expr} {es : List Expr} {kws : List Keyword} {t tk : TA} {p pos : Pos} (C : CalW X.prog X.w X.K X.mg X.base k x ps n ks sp) (hr : Room k X.A) (hg : Gl X x) (ha : PA X (e :: es) t) (hkw : PK X kws tk)
    (hall : (backToKw pos (keywordEach kws X.env)).all (·.1.isSome) = true := by rfl) (hks : (backToKw pos (keywordEach kws X.env)).filterMap (·.1) = ks := by rfl)
    (hdb : (x == ("__debug__" : Str)) = false := by decide) (he : starEach (e :: es) X.env = (false, eval e X.env) :: starEach es X.env := by rfl)
    (hpl : ((backTo pos (starEach (e :: es) X.env)).any (·.1) || (backToKw pos (keywordEach kws X.env)).any (·.1.isNone)) = false := by rfl) :
    PE X (.Call (.Name x p) (e :: es) kws pos) (tCallN n ks.length sp (fun vs zs => vs ++ zs) E0 t tk) := by
  obtain ⟨f, fd, F, m, kp, b⟩ := C.ex
  exact pe_callN F hr hg m kp b pass0 ha hkw hall hks hdb he hpl
theorem opt_word {v : V} (h : v ∈ [V.non, .str "a", .str "nothing"]) : OptW v := by
  simp only [List.mem_cons, List.not_mem_nil, or_false] at h
  rcases h with rfl | rfl | rfl
  · exact .inl rfl
  · exact .inr ⟨_, rfl, by decide +kernel⟩
  · exact .inr ⟨_, rfl, by decide +kernel⟩
end FS
set_option Elab.async false
set_option linter.all false
set_option maxRecDepth 100000
set_option maxHeartbeats 4000000
namespace FS
open PySem PySem.Spec PyProof.Rows L2
section
variable {P : Program} {w : World} {K : PySem.W.Frag} {mg : Str → Option Value} {base : Heap}
abbrev Nlaw : List Str := ["_law_script", "_law_at", "_law_sack_here"]
theorem sclaw : FnScope Nlaw ["_law_script"] (defScope slaw) := ⟨rfl, rfl, rfl, by decide +kernel, rfl, by decide +kernel, by decide +kernel⟩
theorem ok_law {f : Addr} {fd : FuncData} (F : Fun K "law" "law" slaw f fd) (T : Nm K mg) (Cl_sack : Cal P w K mg base 1 "_law_sack" ["_law_script", "_law_at"] (spNumbers K)) (Cl_right : Cal P w K mg base 19 "_law_right" ["_law_sack_here"] spRight) : FnOk P w K mg base CX0 20 f fd ["_law_script"] (spLaw K) := by
  have nd := sclaw.nd
  refine F.ok sclaw (fun vs H Q E h => ?_) (fun cdv A outer s H vs Q E hr h => ?_)
  · obtain ⟨a, ns, rfl, sq, hlen, q⟩ := h
    rfl
  · obtain ⟨a, ns, rfl, sq, hlen, q⟩ := h
    skip
    refine ⟨_, (pss_cons (ps_for PassesOwn.never rfl (pi_range1 rfl T.b_range (pa_cons (pe_callB (call_max2 rfl) (by rfl) T.b_max (by decide +kernel) (pa_cons pe_int (pa_cons (pe_callB (call_min2 rfl) (by rfl) T.b_min (by decide +kernel) (pa_cons pe_int (pa_cons (pe_callB call_len (by rfl) T.b_len PySem.boot_len (pa_cons (pv 0) pa_nil)) pa_nil))) pa_nil))) pa_nil)) (pg_name (i := 1) nd rfl (Or.inl rfl))
  (pss_cons (ps_set (i := 2) nd rfl (Or.inl rfl) (pe_own Cl_sack (hr.mono (by decide)) (by rfl) (pa_cons (pv 0) (pa_cons (pv 1) pa_nil))))
  (pss_one (ps_if (PW.pt (pw_or (pt_not (pt_val (pe_own Cl_right (hr.mono (by decide)) (by rfl) (pa_cons (pv 2) pa_nil)))) (pw_or1 (pt_not (pt_val (pe_own Cl_right (hr.mono (by decide)) (by rfl) (pa_cons (pv 2) pa_nil)))))))
  (pss_one (ps_ret pe_bl))
  pss_nil))))
  (pss_one (ps_ret pe_bl))), ?_⟩

    refine ⟨_, rfl, _, _, rfl, .inl ⟨_, sq, rfl⟩, _, _, rfl, _, _, rfl, ?_⟩
    have hl : (ns.map V.int).length = ns.length := List.length_map _
    rw [hl]
    obtain ⟨m, em, hm⟩ : ∃ m : Nat, (if (if ((ns.length : Nat) : Int) < 6 then ((ns.length : Nat) : Int) else 6) > 1 then (if ((ns.length : Nat) : Int) < 6 then ((ns.length : Nat) : Int) else 6) else 1) = (m : Int) ∧ m ≤ 6 := by
      refine ⟨(if (if ((ns.length : Nat) : Int) < 6 then ((ns.length : Nat) : Int) else 6) > 1 then (if ((ns.length : Nat) : Int) < 6 then ((ns.length : Nat) : Int) else 6) else 1).toNat, ?_, ?_⟩ <;> (split <;> split <;> omega)
    rw [em]
    refine ⟨_, rfl, by omega, by omega, for_range (lo := 0) (n := m) (fun i σ H' => (∃ y1 y2, σ = [some (.ref a), y1, y2]) ∧ Same H H') ⟨⟨_, _, rfl⟩, .refl H⟩ (fun i σ H1 hi hp => ?_) (fun σ H1 hp => ?_)⟩
    · obtain ⟨⟨y1, y2, rfl⟩, s1⟩ := hp
      have ei : (0 : Int) + (i : Int) = (i : Int) := by omega
      rw [ei]
      refine ⟨_, rfl, _, rfl, a, ns, i, rfl, s1.seq sq, by omega, fun H2 p s2 np dp => ?_⟩
      have np0 : H p = none := s1.free np
      refine ⟨_, rfl, p, rfl, dp, fun H3 g3 => ⟨_, rfl, iteF ?_⟩⟩
      refine ⟨_, rfl, p, rfl, g3.2, fun H4 g4 => ⟨_, rfl, iteF ?_⟩⟩
      exact ⟨⟨_, _, rfl⟩, fun b o e => (g3.trans g4).1 b o (ne_of_none e np0) (s2 b o (s1 b o e))⟩
    · obtain ⟨⟨y1, y2, rfl⟩, s1⟩ := hp
      exact q _
end
end FS
set_option Elab.async false
set_option linter.all false
set_option maxRecDepth 100000
set_option maxHeartbeats 4000000
namespace FS
open PySem PySem.Spec PyProof.Rows L2
section
variable {P : Program} {w : World} {K : PySem.W.Frag} {mg : Str → Option Value} {base : Heap}
abbrev N_law_right : List Str := ["_law_sack_here", "_law_plain_here", "_law_program", "_law_word", "_law_code_here", "_law_value"]
theorem sc_law_right : FnScope N_law_right ["_law_sack_here"] (defScope s_law_right) := ⟨rfl, rfl, rfl, by decide +kernel, rfl, by decide +kernel, by decide +kernel⟩
theorem ok_l_right {f : Addr} {fd : FuncData} (F : Fun K "_law_right" "_law_right" s_law_right f fd) (T : Nm K mg) {CP C : Addr} (brepr : mg "repr" = none) (Cl_plain : Cal P w K mg base 18 "_law_plain" ["_law_sack_here"] (spPlainK K [])) (Cl_made : Cal P w K mg base 13 "_law_made" ["_law_plain_here"] (spMadeK K CP C)) (Cl_pick : Cal P w K mg base 2 "_law_pick" ["_law_sack_here", "_law_items"] (spPick K)) (Cl_code : Cal P w K mg base 3 "_law_code" ["_law_plain_here", "_law_word"] (spCodeL K)) (Cl_values : Cal P w K mg base 3 "_law_values" ["_law_sack_here", "_law_code_here"] (spValsC K)) (Cl_due : Cal P w K mg base 3 "_law_due" ["_law_code_here", "_law_value"] (spDueC K)) (Cis_context : CalW P w K mg base 6 "is_context" ["program", "value", "word"] 2 ["word"] (spCtx K CP C)) : FnOk P w K mg base CX0 19 f fd ["_law_sack_here"] (spRight) := by
  have nd := sc_law_right.nd
  refine F.ok sc_law_right (fun vs H Q E h => ?_) (fun cdv A outer s H vs Q E hr h => ?_)
  · obtain ⟨D, rfl, d, q⟩ := h
    rfl
  · obtain ⟨D, rfl, d, q⟩ := h
    skip
    refine ⟨_, (pss_cons (ps_set (i := 1) nd rfl (Or.inl rfl) (pe_own Cl_plain (hr.mono (by decide)) (by rfl) (pa_cons (pv 0) pa_nil)))
  (pss_cons (ps_par (i := 2) (j := 3) (by rfl) nd rfl rfl (by decide) rfl rfl (pa_cons (pe_own Cl_made (hr.mono (by decide)) (by rfl) (pa_cons (pv 1) pa_nil)) (pa_cons (pe_own Cl_pick (hr.mono (by decide)) (by rfl) (pa_cons (pv 0) (pa_cons (pe_lst (pa_cons pe_non (pa_cons pe_str (pa_cons pe_str pa_nil)))) pa_nil))) pa_nil)) (by rfl))
  (pss_cons (ps_set (i := 4) nd rfl (Or.inl rfl) (pe_own Cl_code (hr.mono (by decide)) (by rfl) (pa_cons (pv 1) (pa_cons (pv 3) pa_nil))))
  (pss_cons (ps_for PassesOwn.never rfl (pi_list (pe_own Cl_values (hr.mono (by decide)) (by rfl) (pa_cons (pv 0) (pa_cons (pv 4) pa_nil)))) (pg_name (i := 5) nd rfl (Or.inl rfl))
  (pss_one (ps_if (pt_cmpR op_ne (pe_callB SQ.call_repr_bl (by rfl) brepr (by decide +kernel) (pa_cons (pe_ownW Cis_context (hr.mono (by decide)) (by rfl) (pa_cons (pv 2) (pa_cons (pv 5) pa_nil)) (pk_cons (pv 3) pk_nil)) pa_nil)) (pe_callB SQ.call_repr_bl (by rfl) brepr (by decide +kernel) (pa_cons (pe_own Cl_due (hr.mono (by decide)) (by rfl) (pa_cons (pv 4) (pa_cons (pv 5) pa_nil))) pa_nil)) (nomark _))
  (pss_one (ps_ret pe_bl))
  pss_nil)))
  (pss_one (ps_ret pe_bl)))))), ?_⟩

    refine ⟨_, rfl, D, rfl, d, fun H1 p rl m rs us tb g1 ep er rw0 ok np nr => ?_⟩
    have m1 := ok.m1
    have m3 := ok.m3
    refine ⟨_, rfl, p, rl, m, tb, rs, us, rfl, ep, er, rw0, ok, fun H2 a xs s2 na pg => ?_⟩
    have g2 := g1.same s2
    refine ⟨_, rfl, by show 3 ≤ sizeLine; decide, fun pw nw => ?_⟩
    have dw := g2.2.ne nw
    generalize hX : upd H2 pw _ = H3
    have s3 : Same H2 H3 := by
      rw [← hX]
      exact same_upd nw
    have e3 := (congrFun hX pw).symm.trans upd_same
    clear hX
    have g3 := g2.same s3
    refine ⟨D, pw, _, g3.2, rfl, .inl (.inl e3), dw, List.cons_ne_nil _ _, by show 3 < 1000; decide, fun w' H4 hw g4 _ => ?_⟩
    have ow := opt_word hw
    have g14 : Go D H1 H4 := (Go.of g1.2 (s2.trans s3)).trans g4
    have pg4 := PgX.goN g3.2 (GoN.of g4) (pg.same s3)
    refine ⟨_, _, rfl, ?_⟩
    refine ⟨_, rfl, _, rfl, D, p, rl, m, tb, rs, us, w', rfl, g14.2, g14.1 _ _ np ep, g14.1 _ _ nr er, rw0.tk (g14.tk g1.2), ok.few, ok.nd, ow, by omega, by omega, fun H5 c s5 ca => ?_⟩
    have pg5 := pg4.same s5
    have g15 := g14.same s5
    refine ⟨_, rfl, _, rfl, D, c, m, wdB w', us, rfl, g15.2, ca, ok.few, ok.nd, fun H6 L vs ds g6 eL al wd lx nL => ?_⟩
    have ca6 := ca.go g15.2 g6
    have pg6 := PgX.goN g15.2 (GoN.of g6) pg5
    have gF := (g1.trans g15).trans g6
    refine ⟨L, rfl, ⟨_, .inl (.inl eL)⟩, for_it (walk_list (xs := vs)) (fun i σ' H' => ∃ y, σ' = [some (.ref D), some (.ref p), some (.ref a), some w', some (.ref c), y] ∧ Same H6 H') ⟨_, rfl, .refl _⟩ (fun i σ' H' _ h => ?_) (fun i x σ' G G' hi h hy => ?_) (fun σ' G h => ?_)⟩
    · obtain ⟨y, -, s⟩ := h
      exact .inl (.inl (s _ _ eL))
    · obtain ⟨y, rfl, s⟩ := h
      obtain ⟨rfl, hx⟩ := hy
      obtain ⟨dx, hdx, ax⟩ := al.get hx
      have wx := wd dx (List.mem_of_getElem? hdx)
      refine ⟨_, rfl, _, rfl, _, rfl, rfl, rfl, D, a, m, us, xs, x, w', dx, rfl, pg6.same s, ok.nd, ow, ax.same s, wx, fun H7 s7 => ?_⟩
      have s67 := s.trans s7
      refine ⟨_, rfl, ?_⟩
      refine ⟨_, rfl, _, rfl, D, c, m, wdB w', us, x, dx, rfl, ca6.same s67, ax.same s67, wx, fun H8 s8 => ?_⟩
      refine ⟨_, rfl, rfl, _, rfl, ite2 (fun e => ?_) (fun _ => ?_)⟩
      · rw [decide_eq_true rfl] at e
        cases e
      · exact ⟨_, rfl, s67.trans s8⟩
    · obtain ⟨y, rfl, s⟩ := h
      exact q _ (gF.same s)
end
end FS
set_option Elab.async false
set_option linter.all false
set_option maxRecDepth 100000
set_option maxHeartbeats 4000000
namespace FS
open PySem PySem.Spec PyProof.Rows L2
section
variable {P : Program} {w : World} {K : PySem.W.Frag} {mg : Str → Option Value} {base : Heap}
abbrev N_law_pick : List Str := ["_law_sack_here", "_law_items"]
theorem sc_law_pick : FnScope N_law_pick ["_law_sack_here", "_law_items"] (defScope s_law_pick) := ⟨rfl, rfl, rfl, by decide +kernel, rfl, by decide +kernel, by decide +kernel⟩
theorem ok_l_pick {f : Addr} {fd : FuncData} (F : Fun K "_law_pick" "_law_pick" s_law_pick f fd) (T : Nm K mg) (Cl_deal : Cal P w K mg base 1 "_law_deal" ["_law_sack_here", "_law_size"] spCast) : FnOk P w K mg base CX0 2 f fd ["_law_sack_here", "_law_items"] (spPick K) := by
  have nd := sc_law_pick.nd
  refine F.ok sc_law_pick (fun vs H Q E h => ?_) (fun cdv A outer s H vs Q E hr h => ?_)
  · obtain ⟨a, b, xs, d, rfl, sq, nb, hne, few, q⟩ := h
    rfl
  · obtain ⟨a, b, xs, d, rfl, sq, nb, hne, few, q⟩ := h
    skip
    refine ⟨_, (pss_one (ps_ret (pe_ix ix_list (pv 1) (pe_own Cl_deal (hr.mono (by decide)) (by rfl) (pa_cons (pv 0) (pa_cons (pe_callB call_len (by rfl) T.b_len PySem.boot_len (pa_cons (pv 1) pa_nil)) pa_nil))) (fun _ _ => rfl)))), ?_⟩

    have hl : 0 < xs.length := List.length_pos_iff.mpr hne
    refine ⟨_, rfl, _, rfl, _, rfl, _, _, rfl, .inl ⟨_, sq, rfl⟩, a, _, rfl, d, by omega, by omega, fun r H' r0 r1 g fr => ?_⟩
    obtain ⟨j, rfl⟩ : ∃ j : Nat, r = (j : Int) := ⟨r.toNat, by omega⟩
    have hj : j < xs.length := by omega
    refine ⟨b, xs, _, xs[j], rfl, rfl, g.seq nb sq, atI_nat (List.getElem?_eq_getElem hj), ?_⟩
    exact q _ _ (List.getElem_mem hj) g fr
end
end FS
set_option Elab.async false
set_option linter.all false
set_option maxRecDepth 100000
set_option maxHeartbeats 4000000
namespace FS
open PySem PySem.Spec PyProof.Rows L2
section
variable {P : Program} {w : World} {K : PySem.W.Frag} {mg : Str → Option Value} {base : Heap}
abbrev N_law_values : List Str := ["_law_sack_here", "_law_code_here", "_law_size", "_law_found", "_law_name", "_law_values_here", "_law_parameter", "_law_kind", "_law_one", "_law_odd", "_law_at"]
theorem sc_law_values : FnScope N_law_values ["_law_sack_here", "_law_code_here"] (defScope s_law_values) := ⟨rfl, rfl, rfl, by decide +kernel, rfl, by decide +kernel, by decide +kernel⟩
theorem ok_l_values {f : Addr} {fd : FuncData} (F : Fun K "_law_values" "_law_values" s_law_values f fd) (T : Nm K mg) (Cl_deal : Cal P w K mg base 1 "_law_deal" ["_law_sack_here", "_law_size"] spCast) (Cl_pick : Cal P w K mg base 2 "_law_pick" ["_law_sack_here", "_law_items"] (spPick K)) : FnOk P w K mg base CX0 3 f fd ["_law_sack_here", "_law_code_here"] (spValsC K) := by
  have nd := sc_law_values.nd
  refine F.ok sc_law_values (fun vs H Q E h => ?_) (fun cdv A outer s H vs Q E hr h => ?_)
  · obtain ⟨D, c, m, b, us, rfl, dD, ca, l8, ndn, q⟩ := h
    rfl
  · obtain ⟨D, c, m, b, us, rfl, dD, ca, l8, ndn, q⟩ := h
    skip
    refine ⟨_, (pss_cons (ps_set (i := 2) nd rfl (Or.inl rfl) (pe_ix ix_list (pe_ix ix_list (pe_dget (u1 hr) (pv 1) pe_str (fun _ _ => rfl)) pe_int (fun _ _ => rfl)) (pe_un un_neg pe_int) (fun _ _ => rfl)))
  (pss_cons (ps_set (i := 3) nd rfl (Or.inl rfl) (pe_lst (pa_cons pe_non (pa_cons pe_int (pa_cons (pe_tup pa_nil) (pa_cons pe_str (pa_cons (pe_tup (pa_cons pe_str pa_nil)) (pa_cons (pe_tup (pa_cons pe_str (pa_cons (pe_tup pa_nil) pa_nil))) (pa_cons (pe_lst (pa_cons pe_str (pa_cons (pe_tup pa_nil) pa_nil))) (pa_cons (pe_tup (pa_cons pe_str (pa_cons (pe_tup pa_nil) pa_nil))) (pa_cons (pe_tup (pa_cons pe_str (pa_cons (pe_lst pa_nil) pa_nil))) pa_nil)))))))))))
  (pss_cons (ps_for PassesOwn.never rfl (pi_list (pe_callB (call_sortedD rfl) (by rfl) T.b_sorted (by decide +kernel) (pa_cons (pe_dget (u1 hr) (pv 1) pe_str (fun _ _ => rfl)) pa_nil))) (pg_name (i := 4) nd rfl (Or.inl rfl))
  (pss_cons (ps_set (i := 5) nd rfl (Or.inl rfl) (pe_lst pa_nil))
  (pss_cons (ps_for PassesOwn.never rfl (pi_tup (pe_ix ix_tup (pe_dget (u1 hr) (pe_dget (u1 hr) (pv 1) pe_str (fun _ _ => rfl)) (pv 4) (fun _ _ => rfl)) pe_int (fun _ _ => rfl))) (pg_tup rfl (pgs_cons (pg_name (i := 6) nd rfl (Or.inl rfl)) (pgs_cons (pg_name (i := 7) nd rfl (Or.inl rfl)) pgs_nil)))
  (pss_cons (ps_set (i := 8) nd rfl (Or.inl rfl) (pe_own Cl_deal (hr.mono (by decide)) (by rfl) (pa_cons (pv 0) (pa_cons (pv 2) pa_nil))))
  (pss_one (ps_expr (pe_bm PySem.F.plainAttrs_list PySem.F.slot_list_append PySem.F.type_list_append mt_append (pv 5) (pa_cons (pe_ifExp (pt_cmpR op_eq (pv 7) pe_str (nomark _)) (pv 8) (pe_op op_repB (pe_tup (pa_cons (pv 8) pa_nil)) (pv 2))) pa_nil))))))
  (pss_cons (ps_set (i := 3) nd rfl (Or.inl rfl) (pe_op op_cat (pv 3) (pe_lst (pa_cons (pe_tup (pa_cons (pv 4) (pa_cons (pe_callTy call_tuple_of (by rfl) T.b_tuple (by decide +kernel) (pa_cons (pv 5) pa_nil)) pa_nil))) (pa_cons (pe_tup (pa_cons (pv 4) (pa_cons (pe_op op_catA (pe_callTy call_tuple_of (by rfl) T.b_tuple (by decide +kernel) (pa_cons (pv 5) pa_nil)) (pe_tup (pa_cons pe_int pa_nil))) pa_nil))) (pa_cons (pe_tup (pa_cons (pv 4) (pa_cons (pe_callTy call_tuple_of (by rfl) T.b_tuple (by decide +kernel) (pa_cons (pe_slice sl_list (pv 5) (po_some pe_int) po_none) pa_nil)) pa_nil))) (pa_cons (pe_tup (pa_cons (pv 4) (pa_cons (pv 5) pa_nil))) pa_nil)))))))
  (pss_cons (ps_set (i := 3) nd rfl (Or.inl rfl) (pe_op op_cat (pv 3) (pe_lst (pa_cons (pe_tup (pa_cons (pv 4) (pa_cons (pe_callTy call_tuple_of (by rfl) T.b_tuple (by decide +kernel) (pa_cons (pv 5) pa_nil)) (pa_cons pe_int pa_nil)))) (pa_cons (pe_tup (pa_cons pe_str (pa_cons (pe_callTy call_tuple_of (by rfl) T.b_tuple (by decide +kernel) (pa_cons (pv 5) pa_nil)) pa_nil))) (pa_cons (pe_tup (pa_cons pe_int (pa_cons (pe_callTy call_tuple_of (by rfl) T.b_tuple (by decide +kernel) (pa_cons (pv 5) pa_nil)) pa_nil))) (pa_cons (pe_callTy call_tuple_of (by rfl) T.b_tuple (by decide +kernel) (pa_cons (pv 5) pa_nil)) pa_nil)))))))
  (pss_cons (ps_set (i := 9) nd rfl (Or.inl rfl) (pe_lst (pa_cons (pv 2) (pa_cons (pe_un un_neg pe_int) (pa_cons pe_non (pa_cons pe_bl (pa_cons pe_str (pa_cons (pe_tup pa_nil) (pa_cons (pe_op op_repB (pe_tup (pa_cons pe_int pa_nil)) (pv 2)) (pa_cons (pe_op op_repB (pe_tup (pa_cons pe_int pa_nil)) (pe_op op_sub (pv 2) pe_int)) (pa_cons (pe_op op_repB (pe_tup (pa_cons (pv 2) pa_nil)) (pv 2)) (pa_cons (pe_op op_rep (pe_lst (pa_cons pe_int pa_nil)) (pv 2)) pa_nil))))))))))))
  (pss_cons (ps_set (i := 9) nd rfl (Or.inl rfl) (pe_own Cl_pick (hr.mono (by decide)) (by rfl) (pa_cons (pv 0) (pa_cons (pv 9) pa_nil))))
  (pss_one (ps_if (pt_cmpR (op_neL0 hr) (pv 5) (pe_lst pa_nil) (nomark _))
  (pss_cons (ps_set (i := 10) nd rfl (Or.inl rfl) (pe_own Cl_deal (hr.mono (by decide)) (by rfl) (pa_cons (pv 0) (pa_cons (pe_callB call_len (by rfl) T.b_len PySem.boot_len (pa_cons (pv 5) pa_nil)) pa_nil))))
  (pss_one (ps_expr (pe_bm PySem.F.plainAttrs_list PySem.F.slot_list_append PySem.F.type_list_append mt_append (pv 3) (pa_cons (pe_tup (pa_cons (pv 4) (pa_cons (pe_op op_catA (pe_op op_catA (pe_callTy call_tuple_of (by rfl) T.b_tuple (by decide +kernel) (pa_cons (pe_slice sl_list (pv 5) po_none (po_some (pv 10))) pa_nil)) (pe_tup (pa_cons (pv 9) pa_nil))) (pe_callTy call_tuple_of (by rfl) T.b_tuple (by decide +kernel) (pa_cons (pe_slice sl_list (pv 5) (po_some (pe_op op_add (pv 10) pe_int)) po_none) pa_nil))) pa_nil))) pa_nil)))))
  pss_nil)))))))))
  (pss_one (ps_ret (pv 3)))))), ?_⟩

    obtain ⟨pd, sl, pl, w', kvs, h1, h2, h3, h4, h5, h6, h7, m1, m3⟩ := id ca
    obtain ⟨N, hN, N1, N2⟩ : ∃ N, N = 2 ^ (m * SQ.en m b) ∧ 2 ≤ N ∧ N ≤ 4096 := by
      have h := (SQ.en_le (b := b) ⟨m1, m3⟩).1
      have h' : 1 ≤ m * SQ.en m b := Nat.mul_le_mul m1 h
      exact ⟨_, rfl, Nat.pow_le_pow_right (n := 2) (by decide) h', SQ.size_le ⟨m1, m3⟩⟩
    have gH : Go D H H := .of dD (.refl H)
    have nD : ∀ {a : Addr} {k : List (Key × V)}, H a = some (.dK k) → a ≠ D := fun {a k} e z => by
      obtain ⟨xx, yy, zz, q⟩ := dD
      rw [← z, e] at q
      cases q
    have cod : ∀ {G : Hp}, Go D H G → G c = some (.dK (codL pd sl w')) ∧ G pd = some (.dK kvs) ∧ PV K G kvs us := fun g => ⟨g.1 _ _ (nD h1) h1, g.1 _ _ (nD h2) h2, h3.tk (g.tk dD)⟩
    refine seq_gen (P := fun σ' H1 => σ' = [some (.ref D), some (.ref c), some (.int (N : Int)), none, none, none, none, none, none, none, none] ∧ H1 = H) (fun M hM => ?_) ?_
    · refine ⟨_, rfl, c, _, rfl, code_space h1, sl, _, 2, _, rfl, rfl, .inl (.inl h4), rfl, _, rfl, pl, _, _, _, rfl, rfl, .inl (.inl h5), powL_last _, hM _ _ ⟨?_, rfl⟩⟩
      rw [hN]
      rfl
    rintro _ H1 ⟨rfl, e0⟩
    subst e0
    refine seq_gen (P := fun σ' H2 => ∃ F xs, σ' = [some (.ref D), some (.ref c), some (.int (N : Int)), some (.ref F), none, none, none, none, none, none, none] ∧ Go D H1 H2 ∧ H2 F = some (.lst xs) ∧ F ≠ D ∧ VL K H2 [D] xs ∧ xs.length = 9) (fun M hM => ?_) ?_
    · skip
      refine ⟨by show 0 ≤ sizeLine; decide, fun pH11 nH11 => ?_⟩
      have dpH11 := gH.2.ne nH11
      have qpH11 := gH.free nH11
      generalize hX : upd H1 pH11 _ = HH11
      have s_HH11 : Same H1 HH11 := by
        rw [← hX]
        exact same_upd nH11
      have eH11 := (congrFun hX pH11).symm.trans upd_same
      clear hX
      have gH := gH.same s_HH11
      have oH11 : OkV K HH11 [D] (.ref pH11) := OkV.tup (.inl (.inl eH11)) VL.nil (Nat.le_of_ble_eq_true rfl)
      refine ⟨by show 1 ≤ sizeLine; decide, fun pH12 nH12 => ?_⟩
      have dpH12 := gH.2.ne nH12
      have qpH12 := gH.free nH12
      generalize hX : upd HH11 pH12 _ = HH12
      have s_HH12 : Same HH11 HH12 := by
        rw [← hX]
        exact same_upd nH12
      have eH12 := (congrFun hX pH12).symm.trans upd_same
      clear hX
      have gH := gH.same s_HH12
      have oH11 := oH11.same s_HH12
      have oH12 : OkV K HH12 [D] (.ref pH12) := OkV.tup (.inl (.inl eH12)) (VL.cons (OkV.str (z := ("main" : Str)) (by decide +kernel)) VL.nil) (Nat.le_of_ble_eq_true rfl)
      refine ⟨by show 0 ≤ sizeLine; decide, fun pH13 nH13 => ?_⟩
      have dpH13 := gH.2.ne nH13
      have qpH13 := gH.free nH13
      generalize hX : upd HH12 pH13 _ = HH13
      have s_HH13 : Same HH12 HH13 := by
        rw [← hX]
        exact same_upd nH13
      have eH13 := (congrFun hX pH13).symm.trans upd_same
      clear hX
      have gH := gH.same s_HH13
      have oH11 := oH11.same s_HH13
      have oH12 := oH12.same s_HH13
      have oH13 : OkV K HH13 [D] (.ref pH13) := OkV.tup (.inl (.inl eH13)) VL.nil (Nat.le_of_ble_eq_true rfl)
      refine ⟨by show 2 ≤ sizeLine; decide, fun pH14 nH14 => ?_⟩
      have dpH14 := gH.2.ne nH14
      have qpH14 := gH.free nH14
      generalize hX : upd HH13 pH14 _ = HH14
      have s_HH14 : Same HH13 HH14 := by
        rw [← hX]
        exact same_upd nH14
      have eH14 := (congrFun hX pH14).symm.trans upd_same
      clear hX
      have gH := gH.same s_HH14
      have oH11 := oH11.same s_HH14
      have oH12 := oH12.same s_HH14
      have oH13 := oH13.same s_HH14
      have oH14 : OkV K HH14 [D] (.ref pH14) := OkV.tup (.inl (.inl eH14)) (VL.cons (OkV.str (z := ("main" : Str)) (by decide +kernel)) (VL.cons oH13 VL.nil)) (Nat.le_of_ble_eq_true rfl)
      refine ⟨by show 0 ≤ sizeLine; decide, fun pH15 nH15 => ?_⟩
      have dpH15 := gH.2.ne nH15
      have qpH15 := gH.free nH15
      generalize hX : upd HH14 pH15 _ = HH15
      have s_HH15 : Same HH14 HH15 := by
        rw [← hX]
        exact same_upd nH15
      have eH15 := (congrFun hX pH15).symm.trans upd_same
      clear hX
      have gH := gH.same s_HH15
      have oH11 := oH11.same s_HH15
      have oH12 := oH12.same s_HH15
      have oH13 := oH13.same s_HH15
      have oH14 := oH14.same s_HH15
      have oH15 : OkV K HH15 [D] (.ref pH15) := OkV.tup (.inl (.inl eH15)) VL.nil (Nat.le_of_ble_eq_true rfl)
      refine ⟨by show 2 ≤ sizeLine; decide, fun pH16 nH16 => ?_⟩
      have dpH16 := gH.2.ne nH16
      have qpH16 := gH.free nH16
      generalize hX : upd HH15 pH16 _ = HH16
      have s_HH16 : Same HH15 HH16 := by
        rw [← hX]
        exact same_upd nH16
      have eH16 := (congrFun hX pH16).symm.trans upd_same
      clear hX
      have gH := gH.same s_HH16
      have oH11 := oH11.same s_HH16
      have oH12 := oH12.same s_HH16
      have oH13 := oH13.same s_HH16
      have oH14 := oH14.same s_HH16
      have oH15 := oH15.same s_HH16
      have oH16 : OkV K HH16 [D] (.ref pH16) := OkV.lst (by simpa using dpH16) eH16
      refine ⟨by show 0 ≤ sizeLine; decide, fun pH17 nH17 => ?_⟩
      have dpH17 := gH.2.ne nH17
      have qpH17 := gH.free nH17
      generalize hX : upd HH16 pH17 _ = HH17
      have s_HH17 : Same HH16 HH17 := by
        rw [← hX]
        exact same_upd nH17
      have eH17 := (congrFun hX pH17).symm.trans upd_same
      clear hX
      have gH := gH.same s_HH17
      have oH11 := oH11.same s_HH17
      have oH12 := oH12.same s_HH17
      have oH13 := oH13.same s_HH17
      have oH14 := oH14.same s_HH17
      have oH15 := oH15.same s_HH17
      have oH16 := oH16.same s_HH17
      have eH16 := s_HH17 _ _ eH16
      have oH17 : OkV K HH17 [D] (.ref pH17) := OkV.tup (.inl (.inl eH17)) VL.nil (Nat.le_of_ble_eq_true rfl)
      refine ⟨by show 2 ≤ sizeLine; decide, fun pH18 nH18 => ?_⟩
      have dpH18 := gH.2.ne nH18
      have qpH18 := gH.free nH18
      generalize hX : upd HH17 pH18 _ = HH18
      have s_HH18 : Same HH17 HH18 := by
        rw [← hX]
        exact same_upd nH18
      have eH18 := (congrFun hX pH18).symm.trans upd_same
      clear hX
      have gH := gH.same s_HH18
      have oH11 := oH11.same s_HH18
      have oH12 := oH12.same s_HH18
      have oH13 := oH13.same s_HH18
      have oH14 := oH14.same s_HH18
      have oH15 := oH15.same s_HH18
      have oH16 := oH16.same s_HH18
      have eH16 := s_HH18 _ _ eH16
      have oH17 := oH17.same s_HH18
      have oH18 : OkV K HH18 [D] (.ref pH18) := OkV.tup (.inl (.inl eH18)) (VL.cons (OkV.str (z := ("Main" : Str)) (by decide +kernel)) (VL.cons oH17 VL.nil)) (Nat.le_of_ble_eq_true rfl)
      refine ⟨by show 0 ≤ sizeLine; decide, fun pH19 nH19 => ?_⟩
      have dpH19 := gH.2.ne nH19
      have qpH19 := gH.free nH19
      generalize hX : upd HH18 pH19 _ = HH19
      have s_HH19 : Same HH18 HH19 := by
        rw [← hX]
        exact same_upd nH19
      have eH19 := (congrFun hX pH19).symm.trans upd_same
      clear hX
      have gH := gH.same s_HH19
      have oH11 := oH11.same s_HH19
      have oH12 := oH12.same s_HH19
      have oH13 := oH13.same s_HH19
      have oH14 := oH14.same s_HH19
      have oH15 := oH15.same s_HH19
      have oH16 := oH16.same s_HH19
      have eH16 := s_HH19 _ _ eH16
      have oH17 := oH17.same s_HH19
      have oH18 := oH18.same s_HH19
      have oH19 : OkV K HH19 [D] (.ref pH19) := OkV.lst (by simpa using dpH19) eH19
      refine ⟨by show 2 ≤ sizeLine; decide, fun pH110 nH110 => ?_⟩
      have dpH110 := gH.2.ne nH110
      have qpH110 := gH.free nH110
      generalize hX : upd HH19 pH110 _ = HH110
      have s_HH110 : Same HH19 HH110 := by
        rw [← hX]
        exact same_upd nH110
      have eH110 := (congrFun hX pH110).symm.trans upd_same
      clear hX
      have gH := gH.same s_HH110
      have oH11 := oH11.same s_HH110
      have oH12 := oH12.same s_HH110
      have oH13 := oH13.same s_HH110
      have oH14 := oH14.same s_HH110
      have oH15 := oH15.same s_HH110
      have oH16 := oH16.same s_HH110
      have eH16 := s_HH110 _ _ eH16
      have oH17 := oH17.same s_HH110
      have oH18 := oH18.same s_HH110
      have oH19 := oH19.same s_HH110
      have eH19 := s_HH110 _ _ eH19
      have oH110 : OkV K HH110 [D] (.ref pH110) := OkV.tup (.inl (.inl eH110)) (VL.cons (OkV.str (z := ("main" : Str)) (by decide +kernel)) (VL.cons oH19 VL.nil)) (Nat.le_of_ble_eq_true rfl)
      refine ⟨by show 9 ≤ sizeLine; decide, fun pH111 nH111 => ?_⟩
      have dpH111 := gH.2.ne nH111
      have qpH111 := gH.free nH111
      generalize hX : upd HH110 pH111 _ = HH111
      have s_HH111 : Same HH110 HH111 := by
        rw [← hX]
        exact same_upd nH111
      have eH111 := (congrFun hX pH111).symm.trans upd_same
      clear hX
      have gH := gH.same s_HH111
      have oH11 := oH11.same s_HH111
      have oH12 := oH12.same s_HH111
      have oH13 := oH13.same s_HH111
      have oH14 := oH14.same s_HH111
      have oH15 := oH15.same s_HH111
      have oH16 := oH16.same s_HH111
      have eH16 := s_HH111 _ _ eH16
      have oH17 := oH17.same s_HH111
      have oH18 := oH18.same s_HH111
      have oH19 := oH19.same s_HH111
      have eH19 := s_HH111 _ _ eH19
      have oH110 := oH110.same s_HH111
      refine hM _ _ ⟨pH111, _, rfl, gH, eH111, dpH111, ?_, rfl⟩
      exact (VL.cons OkV.non (VL.cons OkV.int (VL.cons oH11 (VL.cons (OkV.str (z := ("main" : Str)) (by decide +kernel)) (VL.cons oH12 (VL.cons oH14 (VL.cons oH16 (VL.cons oH18 (VL.cons oH110 VL.nil)))))))))
    rintro _ H2 ⟨F0, xs0, rfl, g2, eF0, dF0, vl0, l0⟩
    obtain ⟨c1, c2, -⟩ := cod g2
    refine ⟨_, rfl, c, _, rfl, code_procs c1, pd, kvs, us.map (·.1), rfl, .inl c2, h3.keys, by rw [List.length_map]; omega, fun ns p pm _ np => ?_⟩
    generalize hX : upd H2 p _ = H3
    have s3 : Same H2 H3 := by
      rw [← hX]
      exact same_upd np
    have e3 := (congrFun hX p).symm.trans upd_same
    clear hX
    have g3 := g2.same s3
    have dp := g2.2.ne np
    have lns : ns.length = us.length := by
      have := pm.length_eq
      rw [List.length_map] at this
      exact this
    refine ⟨p, rfl, ⟨_, .inl (.inl e3)⟩, for_it (walk_list (xs := ns.map V.str)) (fun i σ' H' => ∃ F xs x4 x5 x6 x7 x8 x9 x10, σ' = [some (.ref D), some (.ref c), some (.int (N : Int)), some (.ref F), x4, x5, x6, x7, x8, x9, x10] ∧ Go D H1 H' ∧ H' F = some (.lst xs) ∧ F ≠ D ∧ VL K H' [D] xs ∧ xs.length ≤ 9 + 9 * i ∧ H' p = some (.lst (ns.map V.str))) ⟨F0, xs0, _, _, _, _, _, _, _, rfl, g3, s3 _ _ eF0, dF0, vl0.same s3, by omega, e3⟩ (fun i σ' H' _ h => ?_) (fun i x σ' G0 G0' hi h hy => ?_) (fun σ' G0 h => ?_)⟩
    · obtain ⟨F, xs, x4, x5, x6, x7, x8, x9, x10, -, -, -, -, -, -, h⟩ := h
      exact .inl (.inl h)
    · obtain ⟨F, xs, x4, x5, x6, x7, x8, x9, x10, rfl, g0, eF, dF, vx, lx, ep⟩ := h
      obtain ⟨rfl, hx⟩ := hy
      rw [List.length_map] at hi
      rw [List.getElem?_map] at hx
      obtain ⟨nm, hnm, rfl⟩ := Option.map_eq_some_iff.mp hx
      have mem : nm ∈ us.map (·.1) := pm.mem_iff.mp (List.mem_of_getElem? hnm)
      obtain ⟨c1, c2, c3⟩ := cod g0
      rcases c3.get nm with ⟨-, -, v3⟩ | ⟨tq, ov, bv, u, v1, sq, dpv, po, wd, rfl, -⟩
      · exact absurd mem v3
      obtain ⟨so, sl8⟩ := word_ok wd
      have okn : ∀ {G : Hp} {S : List Addr}, OkV K G S (.str u.1) := OkV.str ⟨by omega, so⟩
      obtain ⟨pa, ps, rfl, spa, rp⟩ := Dp.tup_inv (show Dp K G0' ov (.tuple (u.2.1.map parD)) from dpv)
      have lps : ps.length ≤ 3 := by
        rw [DpAll.len rp, List.length_map]
        exact po.few
      refine seq_gen (P := fun σ' G1 => ∃ V0, σ' = [some (.ref D), some (.ref c), some (.int (N : Int)), some (.ref F), some (.str u.1), some (.ref V0), x6, x7, x8, x9, x10] ∧ Same G0' G1 ∧ G0' V0 = none ∧ G1 V0 = some (.lst [])) (fun M hM => ?_) ?_
      · refine ⟨by show 0 ≤ sizeLine; decide, fun V0 nV => ?_⟩
        generalize hX : upd G0' V0 _ = G1
        have sV : Same G0' G1 := by
          rw [← hX]
          exact same_upd nV
        have eV := (congrFun hX V0).symm.trans upd_same
        clear hX
        exact hM _ _ ⟨V0, rfl, sV, nV, eV⟩
      rintro _ G1 ⟨V0, rfl, sV, nV, eV⟩
      have dV := g0.2.ne nV
      have gV : Go D G0' G1 := .of g0.2 sV
      refine seq_gen (P := fun σ' G2 => ∃ vs x6 x7 x8, σ' = [some (.ref D), some (.ref c), some (.int (N : Int)), some (.ref F), some (.str u.1), some (.ref V0), x6, x7, x8, x9, x10] ∧ Go D G0' G2 ∧ G2 V0 = some (.lst vs) ∧ VL K G2 [V0, D] vs ∧ vs.length ≤ 3) (fun M hM => ?_) ?_
      · obtain ⟨b1, b2, -⟩ := cod (g0.trans gV)
        refine ⟨_, rfl, c, _, rfl, code_procs b1, _, rfl, pd, _, rfl, v1 ▸ DGet.k (k := Sum.inr u.1) b2, tq, _, 0, _, rfl, rfl, Same.sqT sV sq, FS.at0, pa, rfl, ⟨_, Same.sqT sV spa⟩, for_it (walk_tup (xs := ps)) (fun j σ' G2 => ∃ vs x6 x7 x8, σ' = [some (.ref D), some (.ref c), some (.int (N : Int)), some (.ref F), some (.str u.1), some (.ref V0), x6, x7, x8, x9, x10] ∧ Go D G0' G2 ∧ G2 V0 = some (.lst vs) ∧ VL K G2 [V0, D] vs ∧ vs.length = j) ⟨[], x6, x7, x8, rfl, gV, eV, VL.nil, rfl⟩ (fun j σ' G2 _ h => ?_) (fun j y σ' G2 G2' hj h hy => ?_) (fun σ' G2 h => ?_)⟩
        · obtain ⟨vs, x6, x7, x8, -, gj, -⟩ := h
          exact (gj.tk g0.2).sqT spa
        · obtain ⟨vs, x6, x7, x8, rfl, gj, eVj, vl, lv⟩ := h
          obtain ⟨rfl, hy⟩ := hy
          obtain ⟨dy, hdy, dpy⟩ := DpAll.get rp hy
          rw [List.getElem?_map] at hdy
          obtain ⟨pr, hpr, rfl⟩ := Option.map_eq_some_iff.mp hdy
          obtain ⟨a1, rfl, sq1⟩ := par_open dpy
          refine ⟨a1, _, rfl, (gj.tk g0.2).sqT sq1, rfl, _, _, rfl, _, _, rfl, rfl, ?_⟩
          refine ⟨_, rfl, _, rfl, D, _, rfl, gj.2, by omega, by omega, fun r A1 r0 r1 ga _ => ?_⟩
          have gA := gj.trans ga
          have eV1 := ga.1 _ _ dV eVj
          have vl1 := vl.go (by simp) gj.2 ga
          refine ⟨_, rfl, .inl ⟨rfl, _, .inl (.inl eV1)⟩, _, rfl, rfl, _, rfl, ?_⟩
          rw [show V.str "block" = V.str (kd false) from rfl, kd_is]
          refine ite2 (fun e5 => ?_) (fun e5 => ?_)
          · refine ⟨_, rfl, V0, vs, _, rfl, rfl, eV1, small1000 (by omega), ?_⟩
            exact ⟨vs ++ [.int r], _, _, _, rfl, gA.upd nV dV, upd_same, (VL.app vl1 (VL.cons OkV.int VL.nil)).set (by simp) eV1, by rw [List.length_append, lv]; rfl⟩
          · refine ⟨_, rfl, by show 1 ≤ sizeLine; decide, fun p2 n2 => ?_⟩
            generalize hX : upd A1 p2 _ = A2
            have s2 : Same A1 A2 := by
              rw [← hX]
              exact same_upd n2
            have e2 := (congrFun hX p2).symm.trans upd_same
            clear hX
            refine ⟨_, rfl, p2, N, _, rfl, rfl, .inl (.inl e2), by omega, by omega, fun p4 A4 s4 sq4 => ?_⟩
            have s24 := s2.trans s4
            have eV4 := s24 _ _ eV1
            have ok : OkV K A4 [V0, D] (.ref p4) := OkV.tup sq4 (VL.rep OkV.int) (by rw [List.length_replicate]; omega)
            refine ⟨V0, vs, _, rfl, rfl, eV4, small1000 (by omega), ?_⟩
            exact ⟨vs ++ [.ref p4], _, _, _, rfl, (gA.same s24).upd nV dV, upd_same, (VL.app (vl1.same s24) (VL.cons ok VL.nil)).set (by simp) eV4, by rw [List.length_append, lv]; rfl⟩
        · obtain ⟨vs, x6, x7, x8, rfl, gj, eVj, vl, lv⟩ := h
          exact hM _ _ ⟨vs, x6, x7, x8, rfl, gj, eVj, vl, by omega⟩
      clear eV gV sV
      rintro _ G2 ⟨vs, x6', x7', x8', rfl, gG, eV, vl, lv⟩
      replace vl : VL K G2 [D] vs := vl.sub fun a h => by simp at h; simp [h]
      replace eF := gG.1 _ _ dF eF
      replace vx := vx.go (by simp) g0.2 gG

      replace ep := gG.1 _ _ dp ep
      refine seq_gen (P := fun σ' G3 => ∃ F2 xs2, σ' = [some (.ref D), some (.ref c), some (.int (N : Int)), some (.ref F2), some (.str u.1), some (.ref V0), x6', x7', x8', x9, x10] ∧ Go D G0' G3 ∧ G3 F2 = some (.lst xs2) ∧ VL K G3 [D] xs2 ∧ xs2.length = xs.length + 4 ∧ G3 V0 = some (.lst vs) ∧ VL K G3 [D] vs ∧ G3 p = some (.lst (ns.map V.str))) (fun M hM => ?_) ?_
      · skip
        refine ⟨_, rfl, _, rfl, _, rfl, V0, vs, rfl, .inl ⟨.inl (.inl eV), fun pG21 nG21 => ?_⟩⟩
        have dpG21 := gG.2.ne nG21
        have qpG21 := gG.free nG21
        generalize hX : upd G2 pG21 _ = HG21
        have s_HG21 : Same G2 HG21 := by
          rw [← hX]
          exact same_upd nG21
        have eG21 := (congrFun hX pG21).symm.trans upd_same
        clear hX
        have gG := gG.same s_HG21
        have eV := s_HG21 _ _ eV
        have eF := s_HG21 _ _ eF
        have vl := vl.same s_HG21
        have vx := vx.same s_HG21
        have ep := s_HG21 _ _ ep
        have oG21 : OkV K HG21 [D] (.ref pG21) := OkV.tup (.inl (.inl eG21)) vl (by omega)
        refine ⟨by show 2 ≤ sizeLine; decide, fun pG22 nG22 => ?_⟩
        have dpG22 := gG.2.ne nG22
        have qpG22 := gG.free nG22
        generalize hX : upd HG21 pG22 _ = HG22
        have s_HG22 : Same HG21 HG22 := by
          rw [← hX]
          exact same_upd nG22
        have eG22 := (congrFun hX pG22).symm.trans upd_same
        clear hX
        have gG := gG.same s_HG22
        have eV := s_HG22 _ _ eV
        have eF := s_HG22 _ _ eF
        have vl := vl.same s_HG22
        have vx := vx.same s_HG22
        have ep := s_HG22 _ _ ep
        have oG21 := oG21.same s_HG22
        have eG21 := s_HG22 _ _ eG21
        have oG22 : OkV K HG22 [D] (.ref pG22) := OkV.tup (.inl (.inl eG22)) (VL.cons okn (VL.cons oG21 VL.nil)) (Nat.le_of_ble_eq_true rfl)
        refine ⟨_, rfl, _, rfl, V0, vs, rfl, .inl ⟨.inl (.inl eV), fun pG23 nG23 => ?_⟩⟩
        have dpG23 := gG.2.ne nG23
        have qpG23 := gG.free nG23
        generalize hX : upd HG22 pG23 _ = HG23
        have s_HG23 : Same HG22 HG23 := by
          rw [← hX]
          exact same_upd nG23
        have eG23 := (congrFun hX pG23).symm.trans upd_same
        clear hX
        have gG := gG.same s_HG23
        have eV := s_HG23 _ _ eV
        have eF := s_HG23 _ _ eF
        have vl := vl.same s_HG23
        have vx := vx.same s_HG23
        have ep := s_HG23 _ _ ep
        have oG21 := oG21.same s_HG23
        have eG21 := s_HG23 _ _ eG21
        have oG22 := oG22.same s_HG23
        have oG23 : OkV K HG23 [D] (.ref pG23) := OkV.tup (.inl (.inl eG23)) vl (by omega)
        refine ⟨by show 1 ≤ sizeLine; decide, fun pG24 nG24 => ?_⟩
        have dpG24 := gG.2.ne nG24
        have qpG24 := gG.free nG24
        generalize hX : upd HG23 pG24 _ = HG24
        have s_HG24 : Same HG23 HG24 := by
          rw [← hX]
          exact same_upd nG24
        have eG24 := (congrFun hX pG24).symm.trans upd_same
        clear hX
        have gG := gG.same s_HG24
        have eV := s_HG24 _ _ eV
        have eF := s_HG24 _ _ eF
        have vl := vl.same s_HG24
        have vx := vx.same s_HG24
        have ep := s_HG24 _ _ ep
        have oG21 := oG21.same s_HG24
        have eG21 := s_HG24 _ _ eG21
        have oG22 := oG22.same s_HG24
        have oG23 := oG23.same s_HG24
        have eG23 := s_HG24 _ _ eG23
        have oG24 : OkV K HG24 [D] (.ref pG24) := OkV.tup (.inl (.inl eG24)) (VL.cons OkV.int VL.nil) (Nat.le_of_ble_eq_true rfl)
        refine cat_tupR (.inl (.inl eG23)) (.inl (.inl eG24)) (List.cons_ne_nil _ _) (by first | (show vs.length + 1 < 16000; omega) | (rw [List.length_append]; show vs.length + 1 ≤ 4200; omega)) (fun HG25 pG25 s_HG25 qG25 => ?_)
        have gG := gG.same s_HG25
        have eV := s_HG25 _ _ eV
        have eF := s_HG25 _ _ eF
        have vl := vl.same s_HG25
        have vx := vx.same s_HG25
        have ep := s_HG25 _ _ ep
        have oG21 := oG21.same s_HG25
        have eG21 := s_HG25 _ _ eG21
        have oG22 := oG22.same s_HG25
        have oG23 := oG23.same s_HG25
        have eG23 := s_HG25 _ _ eG23
        have oG24 := oG24.same s_HG25
        have oG25 : OkV K HG25 [D] (.ref pG25) := OkV.tup qG25 (VL.app vl (VL.cons OkV.int VL.nil)) (by first | (show vs.length + 1 < 4200; omega) | (rw [List.length_append]; show vs.length + 1 ≤ 4200; omega))
        refine ⟨by show 2 ≤ sizeLine; decide, fun pG26 nG26 => ?_⟩
        have dpG26 := gG.2.ne nG26
        have qpG26 := gG.free nG26
        generalize hX : upd HG25 pG26 _ = HG26
        have s_HG26 : Same HG25 HG26 := by
          rw [← hX]
          exact same_upd nG26
        have eG26 := (congrFun hX pG26).symm.trans upd_same
        clear hX
        have gG := gG.same s_HG26
        have eV := s_HG26 _ _ eV
        have eF := s_HG26 _ _ eF
        have vl := vl.same s_HG26
        have vx := vx.same s_HG26
        have ep := s_HG26 _ _ ep
        have oG21 := oG21.same s_HG26
        have eG21 := s_HG26 _ _ eG21
        have oG22 := oG22.same s_HG26
        have oG23 := oG23.same s_HG26
        have eG23 := s_HG26 _ _ eG23
        have oG24 := oG24.same s_HG26
        have oG25 := oG25.same s_HG26
        have oG26 : OkV K HG26 [D] (.ref pG26) := OkV.tup (.inl (.inl eG26)) (VL.cons okn (VL.cons oG25 VL.nil)) (Nat.le_of_ble_eq_true rfl)
        refine ⟨_, rfl, _, rfl, _, rfl, ?_⟩
        refine no_part ?_
        refine ⟨V0, vs, rfl, .inl (.inl eV), fun pG27 nG27 => ?_⟩
        have dpG27 := gG.2.ne nG27
        have qpG27 := gG.free nG27
        generalize hX : upd HG26 pG27 _ = HG27
        have s_HG27 : Same HG26 HG27 := by
          rw [← hX]
          exact same_upd nG27
        have eG27 := (congrFun hX pG27).symm.trans upd_same
        clear hX
        have gG := gG.same s_HG27
        have eV := s_HG27 _ _ eV
        have eF := s_HG27 _ _ eF
        have vl := vl.same s_HG27
        have vx := vx.same s_HG27
        have ep := s_HG27 _ _ ep
        have oG21 := oG21.same s_HG27
        have eG21 := s_HG27 _ _ eG21
        have oG22 := oG22.same s_HG27
        have oG23 := oG23.same s_HG27
        have eG23 := s_HG27 _ _ eG23
        have oG24 := oG24.same s_HG27
        have oG25 := oG25.same s_HG27
        have oG26 := oG26.same s_HG27
        refine ⟨pG27, _, rfl, .inl ⟨.inl (.inl eG27), fun pG28 nG28 => ?_⟩⟩
        have dpG28 := gG.2.ne nG28
        have qpG28 := gG.free nG28
        generalize hX : upd HG27 pG28 _ = HG28
        have s_HG28 : Same HG27 HG28 := by
          rw [← hX]
          exact same_upd nG28
        have eG28 := (congrFun hX pG28).symm.trans upd_same
        clear hX
        have gG := gG.same s_HG28
        have eV := s_HG28 _ _ eV
        have eF := s_HG28 _ _ eF
        have vl := vl.same s_HG28
        have vx := vx.same s_HG28
        have ep := s_HG28 _ _ ep
        have oG21 := oG21.same s_HG28
        have eG21 := s_HG28 _ _ eG21
        have oG22 := oG22.same s_HG28
        have oG23 := oG23.same s_HG28
        have eG23 := s_HG28 _ _ eG23
        have oG24 := oG24.same s_HG28
        have oG25 := oG25.same s_HG28
        have oG26 := oG26.same s_HG28
        have eG27 := s_HG28 _ _ eG27
        skip
        have oG28 : OkV K HG28 [D] (.ref pG28) := OkV.tup (.inl (.inl eG28)) (vl.cut _ _) (Nat.le_trans (cut_le _ _ _) (by omega))
        refine ⟨by show 2 ≤ sizeLine; decide, fun pG29 nG29 => ?_⟩
        have dpG29 := gG.2.ne nG29
        have qpG29 := gG.free nG29
        generalize hX : upd HG28 pG29 _ = HG29
        have s_HG29 : Same HG28 HG29 := by
          rw [← hX]
          exact same_upd nG29
        have eG29 := (congrFun hX pG29).symm.trans upd_same
        clear hX
        have gG := gG.same s_HG29
        have eV := s_HG29 _ _ eV
        have eF := s_HG29 _ _ eF
        have vl := vl.same s_HG29
        have vx := vx.same s_HG29
        have ep := s_HG29 _ _ ep
        have oG21 := oG21.same s_HG29
        have eG21 := s_HG29 _ _ eG21
        have oG22 := oG22.same s_HG29
        have oG23 := oG23.same s_HG29
        have eG23 := s_HG29 _ _ eG23
        have oG24 := oG24.same s_HG29
        have oG25 := oG25.same s_HG29
        have oG26 := oG26.same s_HG29
        have eG27 := s_HG29 _ _ eG27
        have eG28 := s_HG29 _ _ eG28
        have oG28 := oG28.same s_HG29
        have oG29 : OkV K HG29 [D] (.ref pG29) := OkV.tup (.inl (.inl eG29)) (VL.cons okn (VL.cons oG28 VL.nil)) (Nat.le_of_ble_eq_true rfl)
        refine ⟨_, rfl, _, rfl, by show 2 ≤ sizeLine; decide, fun pG210 nG210 => ?_⟩
        have dpG210 := gG.2.ne nG210
        have qpG210 := gG.free nG210
        generalize hX : upd HG29 pG210 _ = HG210
        have s_HG210 : Same HG29 HG210 := by
          rw [← hX]
          exact same_upd nG210
        have eG210 := (congrFun hX pG210).symm.trans upd_same
        clear hX
        have gG := gG.same s_HG210
        have eV := s_HG210 _ _ eV
        have eF := s_HG210 _ _ eF
        have vl := vl.same s_HG210
        have vx := vx.same s_HG210
        have ep := s_HG210 _ _ ep
        have oG21 := oG21.same s_HG210
        have eG21 := s_HG210 _ _ eG21
        have oG22 := oG22.same s_HG210
        have oG23 := oG23.same s_HG210
        have eG23 := s_HG210 _ _ eG23
        have oG24 := oG24.same s_HG210
        have oG25 := oG25.same s_HG210
        have oG26 := oG26.same s_HG210
        have eG27 := s_HG210 _ _ eG27
        have eG28 := s_HG210 _ _ eG28
        have oG28 := oG28.same s_HG210
        have oG29 := oG29.same s_HG210
        have oG210 : OkV K HG210 [D] (.ref pG210) := OkV.tup (.inl (.inl eG210)) (VL.cons okn (VL.cons (OkV.lst (by simpa using dV) eV) VL.nil)) (Nat.le_of_ble_eq_true rfl)
        refine ⟨by show 4 ≤ sizeLine; decide, fun pG211 nG211 => ?_⟩
        have dpG211 := gG.2.ne nG211
        have qpG211 := gG.free nG211
        generalize hX : upd HG210 pG211 _ = HG211
        have s_HG211 : Same HG210 HG211 := by
          rw [← hX]
          exact same_upd nG211
        have eG211 := (congrFun hX pG211).symm.trans upd_same
        clear hX
        have gG := gG.same s_HG211
        have eV := s_HG211 _ _ eV
        have eF := s_HG211 _ _ eF
        have vl := vl.same s_HG211
        have vx := vx.same s_HG211
        have ep := s_HG211 _ _ ep
        have oG21 := oG21.same s_HG211
        have eG21 := s_HG211 _ _ eG21
        have oG22 := oG22.same s_HG211
        have oG23 := oG23.same s_HG211
        have eG23 := s_HG211 _ _ eG23
        have oG24 := oG24.same s_HG211
        have oG25 := oG25.same s_HG211
        have oG26 := oG26.same s_HG211
        have eG27 := s_HG211 _ _ eG27
        have eG28 := s_HG211 _ _ eG28
        have oG28 := oG28.same s_HG211
        have oG29 := oG29.same s_HG211
        have oG210 := oG210.same s_HG211
        have lx3 := lx
        refine ⟨F, pG211, xs, _, rfl, rfl, eF, eG211, by rw [sizeLine_eq]; show xs.length + 4 ≤ _; omega, fun pG212 nG212 => ?_⟩
        have dpG212 := gG.2.ne nG212
        have qpG212 := gG.free nG212
        generalize hX : upd HG211 pG212 _ = HG212
        have s_HG212 : Same HG211 HG212 := by
          rw [← hX]
          exact same_upd nG212
        have eG212 := (congrFun hX pG212).symm.trans upd_same
        clear hX
        have gG := gG.same s_HG212
        have eV := s_HG212 _ _ eV
        have eF := s_HG212 _ _ eF
        have vl := vl.same s_HG212
        have vx := vx.same s_HG212
        have ep := s_HG212 _ _ ep
        have oG21 := oG21.same s_HG212
        have eG21 := s_HG212 _ _ eG21
        have oG22 := oG22.same s_HG212
        have oG23 := oG23.same s_HG212
        have eG23 := s_HG212 _ _ eG23
        have oG24 := oG24.same s_HG212
        have oG25 := oG25.same s_HG212
        have oG26 := oG26.same s_HG212
        have eG27 := s_HG212 _ _ eG27
        have eG28 := s_HG212 _ _ eG28
        have oG28 := oG28.same s_HG212
        have oG29 := oG29.same s_HG212
        have oG210 := oG210.same s_HG212
        have eG211 := s_HG212 _ _ eG211
        refine hM _ _ ⟨pG212, _, rfl, gG, eG212, VL.app vx (VL.cons oG22 (VL.cons oG26 (VL.cons oG29 (VL.cons oG210 VL.nil)))), List.length_append, eV, vl, ep⟩
      clear eV vl vx eF gG ep
      rintro _ G3 ⟨F2, xs2, rfl, gG, eF, vx, lx2, eV, vl, ep⟩
      refine seq_gen (P := fun σ' G4 => ∃ F3 xs3, σ' = [some (.ref D), some (.ref c), some (.int (N : Int)), some (.ref F3), some (.str u.1), some (.ref V0), x6', x7', x8', x9, x10] ∧ Go D G0' G4 ∧ G4 F3 = some (.lst xs3) ∧ F3 ≠ D ∧ G0' F3 = none ∧ F3 ≠ V0 ∧ F3 ≠ p ∧ VL K G4 [F3, D] xs3 ∧ xs3.length = xs.length + 8 ∧ G4 V0 = some (.lst vs) ∧ VL K G4 [F3, D] vs ∧ G4 p = some (.lst (ns.map V.str))) (fun M hM => ?_) ?_
      · skip
        refine ⟨_, rfl, _, rfl, _, rfl, V0, vs, rfl, .inl ⟨.inl (.inl eV), fun pG31 nG31 => ?_⟩⟩
        have dpG31 := gG.2.ne nG31
        have qpG31 := gG.free nG31
        generalize hX : upd G3 pG31 _ = HG31
        have s_HG31 : Same G3 HG31 := by
          rw [← hX]
          exact same_upd nG31
        have eG31 := (congrFun hX pG31).symm.trans upd_same
        clear hX
        have gG := gG.same s_HG31
        have eV := s_HG31 _ _ eV
        have eF := s_HG31 _ _ eF
        have vl := vl.same s_HG31
        have vx := vx.same s_HG31
        have ep := s_HG31 _ _ ep
        have oG31 : OkV K HG31 [D] (.ref pG31) := OkV.tup (.inl (.inl eG31)) vl (by omega)
        refine ⟨by show 3 ≤ sizeLine; decide, fun pG32 nG32 => ?_⟩
        have dpG32 := gG.2.ne nG32
        have qpG32 := gG.free nG32
        generalize hX : upd HG31 pG32 _ = HG32
        have s_HG32 : Same HG31 HG32 := by
          rw [← hX]
          exact same_upd nG32
        have eG32 := (congrFun hX pG32).symm.trans upd_same
        clear hX
        have gG := gG.same s_HG32
        have eV := s_HG32 _ _ eV
        have eF := s_HG32 _ _ eF
        have vl := vl.same s_HG32
        have vx := vx.same s_HG32
        have ep := s_HG32 _ _ ep
        have oG31 := oG31.same s_HG32
        have eG31 := s_HG32 _ _ eG31
        have oG32 : OkV K HG32 [D] (.ref pG32) := OkV.tup (.inl (.inl eG32)) (VL.cons okn (VL.cons oG31 (VL.cons OkV.int VL.nil))) (Nat.le_of_ble_eq_true rfl)
        refine ⟨_, rfl, V0, vs, rfl, .inl ⟨.inl (.inl eV), fun pG33 nG33 => ?_⟩⟩
        have dpG33 := gG.2.ne nG33
        have qpG33 := gG.free nG33
        generalize hX : upd HG32 pG33 _ = HG33
        have s_HG33 : Same HG32 HG33 := by
          rw [← hX]
          exact same_upd nG33
        have eG33 := (congrFun hX pG33).symm.trans upd_same
        clear hX
        have gG := gG.same s_HG33
        have eV := s_HG33 _ _ eV
        have eF := s_HG33 _ _ eF
        have vl := vl.same s_HG33
        have vx := vx.same s_HG33
        have ep := s_HG33 _ _ ep
        have oG31 := oG31.same s_HG33
        have eG31 := s_HG33 _ _ eG31
        have oG32 := oG32.same s_HG33
        have oG33 : OkV K HG33 [D] (.ref pG33) := OkV.tup (.inl (.inl eG33)) vl (by omega)
        refine ⟨by show 2 ≤ sizeLine; decide, fun pG34 nG34 => ?_⟩
        have dpG34 := gG.2.ne nG34
        have qpG34 := gG.free nG34
        generalize hX : upd HG33 pG34 _ = HG34
        have s_HG34 : Same HG33 HG34 := by
          rw [← hX]
          exact same_upd nG34
        have eG34 := (congrFun hX pG34).symm.trans upd_same
        clear hX
        have gG := gG.same s_HG34
        have eV := s_HG34 _ _ eV
        have eF := s_HG34 _ _ eF
        have vl := vl.same s_HG34
        have vx := vx.same s_HG34
        have ep := s_HG34 _ _ ep
        have oG31 := oG31.same s_HG34
        have eG31 := s_HG34 _ _ eG31
        have oG32 := oG32.same s_HG34
        have oG33 := oG33.same s_HG34
        have eG33 := s_HG34 _ _ eG33
        have oG34 : OkV K HG34 [D] (.ref pG34) := OkV.tup (.inl (.inl eG34)) (VL.cons (OkV.str (z := ("nobody" : Str)) (by decide +kernel)) (VL.cons oG33 VL.nil)) (Nat.le_of_ble_eq_true rfl)
        refine ⟨_, rfl, V0, vs, rfl, .inl ⟨.inl (.inl eV), fun pG35 nG35 => ?_⟩⟩
        have dpG35 := gG.2.ne nG35
        have qpG35 := gG.free nG35
        generalize hX : upd HG34 pG35 _ = HG35
        have s_HG35 : Same HG34 HG35 := by
          rw [← hX]
          exact same_upd nG35
        have eG35 := (congrFun hX pG35).symm.trans upd_same
        clear hX
        have gG := gG.same s_HG35
        have eV := s_HG35 _ _ eV
        have eF := s_HG35 _ _ eF
        have vl := vl.same s_HG35
        have vx := vx.same s_HG35
        have ep := s_HG35 _ _ ep
        have oG31 := oG31.same s_HG35
        have eG31 := s_HG35 _ _ eG31
        have oG32 := oG32.same s_HG35
        have oG33 := oG33.same s_HG35
        have eG33 := s_HG35 _ _ eG33
        have oG34 := oG34.same s_HG35
        have oG35 : OkV K HG35 [D] (.ref pG35) := OkV.tup (.inl (.inl eG35)) vl (by omega)
        refine ⟨by show 2 ≤ sizeLine; decide, fun pG36 nG36 => ?_⟩
        have dpG36 := gG.2.ne nG36
        have qpG36 := gG.free nG36
        generalize hX : upd HG35 pG36 _ = HG36
        have s_HG36 : Same HG35 HG36 := by
          rw [← hX]
          exact same_upd nG36
        have eG36 := (congrFun hX pG36).symm.trans upd_same
        clear hX
        have gG := gG.same s_HG36
        have eV := s_HG36 _ _ eV
        have eF := s_HG36 _ _ eF
        have vl := vl.same s_HG36
        have vx := vx.same s_HG36
        have ep := s_HG36 _ _ ep
        have oG31 := oG31.same s_HG36
        have eG31 := s_HG36 _ _ eG31
        have oG32 := oG32.same s_HG36
        have oG33 := oG33.same s_HG36
        have eG33 := s_HG36 _ _ eG33
        have oG34 := oG34.same s_HG36
        have oG35 := oG35.same s_HG36
        have eG35 := s_HG36 _ _ eG35
        have oG36 : OkV K HG36 [D] (.ref pG36) := OkV.tup (.inl (.inl eG36)) (VL.cons OkV.int (VL.cons oG35 VL.nil)) (Nat.le_of_ble_eq_true rfl)
        refine ⟨_, rfl, V0, vs, rfl, .inl ⟨.inl (.inl eV), fun pG37 nG37 => ?_⟩⟩
        have dpG37 := gG.2.ne nG37
        have qpG37 := gG.free nG37
        generalize hX : upd HG36 pG37 _ = HG37
        have s_HG37 : Same HG36 HG37 := by
          rw [← hX]
          exact same_upd nG37
        have eG37 := (congrFun hX pG37).symm.trans upd_same
        clear hX
        have gG := gG.same s_HG37
        have eV := s_HG37 _ _ eV
        have eF := s_HG37 _ _ eF
        have vl := vl.same s_HG37
        have vx := vx.same s_HG37
        have ep := s_HG37 _ _ ep
        have oG31 := oG31.same s_HG37
        have eG31 := s_HG37 _ _ eG31
        have oG32 := oG32.same s_HG37
        have oG33 := oG33.same s_HG37
        have eG33 := s_HG37 _ _ eG33
        have oG34 := oG34.same s_HG37
        have oG35 := oG35.same s_HG37
        have eG35 := s_HG37 _ _ eG35
        have oG36 := oG36.same s_HG37
        have oG37 : OkV K HG37 [D] (.ref pG37) := OkV.tup (.inl (.inl eG37)) vl (by omega)
        refine ⟨by show 4 ≤ sizeLine; decide, fun pG38 nG38 => ?_⟩
        have dpG38 := gG.2.ne nG38
        have qpG38 := gG.free nG38
        generalize hX : upd HG37 pG38 _ = HG38
        have s_HG38 : Same HG37 HG38 := by
          rw [← hX]
          exact same_upd nG38
        have eG38 := (congrFun hX pG38).symm.trans upd_same
        clear hX
        have gG := gG.same s_HG38
        have eV := s_HG38 _ _ eV
        have eF := s_HG38 _ _ eF
        have vl := vl.same s_HG38
        have vx := vx.same s_HG38
        have ep := s_HG38 _ _ ep
        have oG31 := oG31.same s_HG38
        have eG31 := s_HG38 _ _ eG31
        have oG32 := oG32.same s_HG38
        have oG33 := oG33.same s_HG38
        have eG33 := s_HG38 _ _ eG33
        have oG34 := oG34.same s_HG38
        have oG35 := oG35.same s_HG38
        have eG35 := s_HG38 _ _ eG35
        have oG36 := oG36.same s_HG38
        have oG37 := oG37.same s_HG38
        have eG37 := s_HG38 _ _ eG37
        refine ⟨F2, pG38, xs2, _, rfl, rfl, eF, eG38, by rw [sizeLine_eq]; show xs2.length + 4 ≤ _; omega, fun pG39 nG39 => ?_⟩
        have vy := VL.more (VL.app vx (VL.cons oG32 (VL.cons oG34 (VL.cons oG36 (VL.cons oG37 VL.nil))))) nG39
        have vm := vl.more nG39
        have z1 : pG39 ≠ V0 := fun z => by rw [z, eV] at nG39; cases nG39
        have z2 : pG39 ≠ p := fun z => by rw [z, ep] at nG39; cases nG39
        have dpG39 := gG.2.ne nG39
        have qpG39 := gG.free nG39
        generalize hX : upd HG38 pG39 _ = HG39
        have s_HG39 : Same HG38 HG39 := by
          rw [← hX]
          exact same_upd nG39
        have eG39 := (congrFun hX pG39).symm.trans upd_same
        clear hX
        have gG := gG.same s_HG39
        have eV := s_HG39 _ _ eV
        have eF := s_HG39 _ _ eF
        have vl := vl.same s_HG39
        have vx := vx.same s_HG39
        have ep := s_HG39 _ _ ep
        have oG31 := oG31.same s_HG39
        have eG31 := s_HG39 _ _ eG31
        have oG32 := oG32.same s_HG39
        have oG33 := oG33.same s_HG39
        have eG33 := s_HG39 _ _ eG33
        have oG34 := oG34.same s_HG39
        have oG35 := oG35.same s_HG39
        have eG35 := s_HG39 _ _ eG35
        have oG36 := oG36.same s_HG39
        have oG37 := oG37.same s_HG39
        have eG37 := s_HG39 _ _ eG37
        have eG38 := s_HG39 _ _ eG38
        have vy := vy.same s_HG39
        have vm := vm.same s_HG39
        refine hM _ _ ⟨pG39, _, rfl, gG, eG39, dpG39, qpG39, z1, z2, vy, by rw [List.length_append, lx2]; rfl, eV, vm, ep⟩
      clear eV vl vx eF gG ep lx2
      rintro _ G4 ⟨F3, xs3, rfl, gG, eF, dF3, nF3, zV, zp, vx, lx3, eV, vl, ep⟩
      refine seq_gen (P := fun σ' G5 => ∃ O os, σ' = [some (.ref D), some (.ref c), some (.int (N : Int)), some (.ref F3), some (.str u.1), some (.ref V0), x6', x7', x8', some (.ref O), x10] ∧ Go D G0' G5 ∧ G5 O = some (.lst os) ∧ O ≠ D ∧ os.length = 10 ∧ VL K G5 [F3, D] os ∧ G5 F3 = some (.lst xs3) ∧ VL K G5 [F3, D] xs3 ∧ G5 V0 = some (.lst vs) ∧ VL K G5 [F3, D] vs ∧ G5 p = some (.lst (ns.map V.str))) (fun M hM => ?_) ?_
      · skip
        refine ⟨_, rfl, _, rfl, by show 0 ≤ sizeLine; decide, fun pG41 nG41 => ?_⟩
        have dpG41 := gG.2.ne nG41
        have qpG41 := gG.free nG41
        generalize hX : upd G4 pG41 _ = HG41
        have s_HG41 : Same G4 HG41 := by
          rw [← hX]
          exact same_upd nG41
        have eG41 := (congrFun hX pG41).symm.trans upd_same
        clear hX
        have gG := gG.same s_HG41
        have eV := s_HG41 _ _ eV
        have eF := s_HG41 _ _ eF
        have vl := vl.same s_HG41
        have vx := vx.same s_HG41
        have ep := s_HG41 _ _ ep
        have oG41 : OkV K HG41 [F3, D] (.ref pG41) := OkV.tup (.inl (.inl eG41)) VL.nil (Nat.le_of_ble_eq_true rfl)
        refine ⟨by show 1 ≤ sizeLine; decide, fun pG42 nG42 => ?_⟩
        have dpG42 := gG.2.ne nG42
        have qpG42 := gG.free nG42
        generalize hX : upd HG41 pG42 _ = HG42
        have s_HG42 : Same HG41 HG42 := by
          rw [← hX]
          exact same_upd nG42
        have eG42 := (congrFun hX pG42).symm.trans upd_same
        clear hX
        have gG := gG.same s_HG42
        have eV := s_HG42 _ _ eV
        have eF := s_HG42 _ _ eF
        have vl := vl.same s_HG42
        have vx := vx.same s_HG42
        have ep := s_HG42 _ _ ep
        have oG41 := oG41.same s_HG42
        have oG42 : OkV K HG42 [F3, D] (.ref pG42) := OkV.tup (.inl (.inl eG42)) (VL.cons OkV.int VL.nil) (Nat.le_of_ble_eq_true rfl)
        refine ⟨_, rfl, pG42, N, _, rfl, rfl, .inl (.inl eG42), by omega, by omega, fun pG43 HG43 s_HG43 qG43 => ?_⟩
        have gG := gG.same s_HG43
        have eV := s_HG43 _ _ eV
        have eF := s_HG43 _ _ eF
        have vl := vl.same s_HG43
        have vx := vx.same s_HG43
        have ep := s_HG43 _ _ ep
        have oG41 := oG41.same s_HG43
        have oG42 := oG42.same s_HG43
        have oG43 : OkV K HG43 [F3, D] (.ref pG43) := OkV.tup qG43 (VL.rep OkV.int) (by rw [List.length_replicate]; omega)
        refine ⟨by show 1 ≤ sizeLine; decide, fun pG44 nG44 => ?_⟩
        have dpG44 := gG.2.ne nG44
        have qpG44 := gG.free nG44
        generalize hX : upd HG43 pG44 _ = HG44
        have s_HG44 : Same HG43 HG44 := by
          rw [← hX]
          exact same_upd nG44
        have eG44 := (congrFun hX pG44).symm.trans upd_same
        clear hX
        have gG := gG.same s_HG44
        have eV := s_HG44 _ _ eV
        have eF := s_HG44 _ _ eF
        have vl := vl.same s_HG44
        have vx := vx.same s_HG44
        have ep := s_HG44 _ _ ep
        have oG41 := oG41.same s_HG44
        have oG42 := oG42.same s_HG44
        have oG43 := oG43.same s_HG44
        have oG44 : OkV K HG44 [F3, D] (.ref pG44) := OkV.tup (.inl (.inl eG44)) (VL.cons OkV.int VL.nil) (Nat.le_of_ble_eq_true rfl)
        refine ⟨_, rfl, _, _, rfl, rfl, pG44, N - 1, _, rfl, (congrArg V.int (show (N : Int) - 1 = ((N - 1 : Nat) : Int) by omega)), .inl (.inl eG44), by omega, by omega, fun pG45 HG45 s_HG45 qG45 => ?_⟩
        have gG := gG.same s_HG45
        have eV := s_HG45 _ _ eV
        have eF := s_HG45 _ _ eF
        have vl := vl.same s_HG45
        have vx := vx.same s_HG45
        have ep := s_HG45 _ _ ep
        have oG41 := oG41.same s_HG45
        have oG42 := oG42.same s_HG45
        have oG43 := oG43.same s_HG45
        have oG44 := oG44.same s_HG45
        have oG45 : OkV K HG45 [F3, D] (.ref pG45) := OkV.tup qG45 (VL.rep OkV.int) (by rw [List.length_replicate]; omega)
        refine ⟨_, rfl, by show 1 ≤ sizeLine; decide, fun pG46 nG46 => ?_⟩
        have dpG46 := gG.2.ne nG46
        have qpG46 := gG.free nG46
        generalize hX : upd HG45 pG46 _ = HG46
        have s_HG46 : Same HG45 HG46 := by
          rw [← hX]
          exact same_upd nG46
        have eG46 := (congrFun hX pG46).symm.trans upd_same
        clear hX
        have gG := gG.same s_HG46
        have eV := s_HG46 _ _ eV
        have eF := s_HG46 _ _ eF
        have vl := vl.same s_HG46
        have vx := vx.same s_HG46
        have ep := s_HG46 _ _ ep
        have oG41 := oG41.same s_HG46
        have oG42 := oG42.same s_HG46
        have oG43 := oG43.same s_HG46
        have oG44 := oG44.same s_HG46
        have oG45 := oG45.same s_HG46
        have oG46 : OkV K HG46 [F3, D] (.ref pG46) := OkV.tup (.inl (.inl eG46)) (VL.cons OkV.int VL.nil) (Nat.le_of_ble_eq_true rfl)
        refine ⟨_, rfl, pG46, N, _, rfl, rfl, .inl (.inl eG46), by omega, by omega, fun pG47 HG47 s_HG47 qG47 => ?_⟩
        have gG := gG.same s_HG47
        have eV := s_HG47 _ _ eV
        have eF := s_HG47 _ _ eF
        have vl := vl.same s_HG47
        have vx := vx.same s_HG47
        have ep := s_HG47 _ _ ep
        have oG41 := oG41.same s_HG47
        have oG42 := oG42.same s_HG47
        have oG43 := oG43.same s_HG47
        have oG44 := oG44.same s_HG47
        have oG45 := oG45.same s_HG47
        have oG46 := oG46.same s_HG47
        have oG47 : OkV K HG47 [F3, D] (.ref pG47) := OkV.tup qG47 (VL.rep OkV.int) (by rw [List.length_replicate]; omega)
        refine ⟨by show 1 ≤ sizeLine; decide, fun pG48 nG48 => ?_⟩
        have dpG48 := gG.2.ne nG48
        have qpG48 := gG.free nG48
        generalize hX : upd HG47 pG48 _ = HG48
        have s_HG48 : Same HG47 HG48 := by
          rw [← hX]
          exact same_upd nG48
        have eG48 := (congrFun hX pG48).symm.trans upd_same
        clear hX
        have gG := gG.same s_HG48
        have eV := s_HG48 _ _ eV
        have eF := s_HG48 _ _ eF
        have vl := vl.same s_HG48
        have vx := vx.same s_HG48
        have ep := s_HG48 _ _ ep
        have oG41 := oG41.same s_HG48
        have oG42 := oG42.same s_HG48
        have oG43 := oG43.same s_HG48
        have oG44 := oG44.same s_HG48
        have oG45 := oG45.same s_HG48
        have oG46 := oG46.same s_HG48
        have oG47 := oG47.same s_HG48
        refine ⟨_, rfl, pG48, _, _, rfl, rfl, eG48, by omega, by omega, by rw [sizeLine_eq]; show 1 * (N : Int).toNat ≤ _; omega, fun pG49 nG49 => ?_⟩
        have zF : pG49 ≠ F3 := fun z => by rw [z, eF] at nG49; cases nG49
        have dpG49 := gG.2.ne nG49
        have qpG49 := gG.free nG49
        generalize hX : upd HG48 pG49 _ = HG49
        have s_HG49 : Same HG48 HG49 := by
          rw [← hX]
          exact same_upd nG49
        have eG49 := (congrFun hX pG49).symm.trans upd_same
        clear hX
        have gG := gG.same s_HG49
        have eV := s_HG49 _ _ eV
        have eF := s_HG49 _ _ eF
        have vl := vl.same s_HG49
        have vx := vx.same s_HG49
        have ep := s_HG49 _ _ ep
        have oG41 := oG41.same s_HG49
        have oG42 := oG42.same s_HG49
        have oG43 := oG43.same s_HG49
        have oG44 := oG44.same s_HG49
        have oG45 := oG45.same s_HG49
        have oG46 := oG46.same s_HG49
        have oG47 := oG47.same s_HG49
        have oG49 : OkV K HG49 [F3, D] (.ref pG49) := OkV.lst (by simp [zF, dpG49]) eG49
        refine ⟨by show 10 ≤ sizeLine; decide, fun pG410 nG410 => ?_⟩
        have dpG410 := gG.2.ne nG410
        have qpG410 := gG.free nG410
        generalize hX : upd HG49 pG410 _ = HG410
        have s_HG410 : Same HG49 HG410 := by
          rw [← hX]
          exact same_upd nG410
        have eG410 := (congrFun hX pG410).symm.trans upd_same
        clear hX
        have gG := gG.same s_HG410
        have eV := s_HG410 _ _ eV
        have eF := s_HG410 _ _ eF
        have vl := vl.same s_HG410
        have vx := vx.same s_HG410
        have ep := s_HG410 _ _ ep
        have oG41 := oG41.same s_HG410
        have oG42 := oG42.same s_HG410
        have oG43 := oG43.same s_HG410
        have oG44 := oG44.same s_HG410
        have oG45 := oG45.same s_HG410
        have oG46 := oG46.same s_HG410
        have oG47 := oG47.same s_HG410
        have oG49 := oG49.same s_HG410
        refine hM _ _ ⟨pG410, _, rfl, gG, eG410, dpG410, rfl, (VL.cons OkV.int (VL.cons OkV.int (VL.cons OkV.non (VL.cons OkV.bl (VL.cons (OkV.str (z := ("0" : Str)) (by decide +kernel)) (VL.cons oG41 (VL.cons oG43 (VL.cons oG45 (VL.cons oG47 (VL.cons oG49 VL.nil)))))))))), eF, vx, eV, vl, ep⟩
      clear eV vl vx eF gG ep
      rintro _ G5 ⟨O, os, rfl, gG, eO, dO, lo, vo, eF, vx, eV, vl, ep⟩
      refine seq_gen (P := fun σ' G6 => ∃ od, σ' = [some (.ref D), some (.ref c), some (.int (N : Int)), some (.ref F3), some (.str u.1), some (.ref V0), x6', x7', x8', some od, x10] ∧ Go D G0' G6 ∧ OkV K G6 [F3, D] od ∧ G6 F3 = some (.lst xs3) ∧ VL K G6 [F3, D] xs3 ∧ G6 V0 = some (.lst vs) ∧ VL K G6 [F3, D] vs ∧ G6 p = some (.lst (ns.map V.str))) (fun M hM => ?_) ?_
      · refine ⟨_, rfl, _, rfl, D, O, _, gG.2, rfl, .inl (.inl eO), dO, (fun z => by rw [z] at lo; cases lo), by omega, fun v A hv ga _ => ?_⟩
        exact hM _ _ ⟨v, rfl, gG.trans ga, (vo v hv).go (by simp) gG.2 ga, ga.1 _ _ dF3 eF, vx.go (by simp) gG.2 ga, ga.1 _ _ dV eV, vl.go (by simp) gG.2 ga, ga.1 _ _ dp ep⟩
      clear eV vl vx eF gG ep vo eO
      rintro _ G6 ⟨od, rfl, gG, oo, eF, vx, eV, vl, ep⟩
      have fin : ∀ {G7 : Hp} {xs4 : List V} {y10 : Option V}, Go D G0' G7 → G7 F3 = some (.lst xs4) → VL K G7 [F3, D] xs4 → xs4.length ≤ 9 + 9 * (i + 1) → G7 p = some (.lst (ns.map V.str)) → ∃ F xs x4 x5 x6 x7 x8 x9 x10, [some (.ref D), some (.ref c), some (.int (N : Int)), some (.ref F3), some (.str u.1), some (.ref V0), x6', x7', x8', some od, y10] = [some (.ref D), some (.ref c), some (.int (N : Int)), some (.ref F), x4, x5, x6, x7, x8, x9, x10] ∧ Go D H1 G7 ∧ G7 F = some (.lst xs) ∧ F ≠ D ∧ VL K G7 [D] xs ∧ xs.length ≤ 9 + 9 * (i + 1) ∧ G7 p = some (.lst (ns.map V.str)) := fun g e v l ep => ⟨F3, _, _, _, _, _, _, _, _, rfl, g0.trans g, e, dF3, v.sub (fun a h => by simp at h; simp [h]), l, ep⟩
      refine ⟨_, rfl, by show 0 ≤ sizeLine; decide, fun pE nE => ?_⟩
      generalize hX : upd G6 pE _ = G7
      have sE : Same G6 G7 := by
        rw [← hX]
        exact same_upd nE
      have eE := (congrFun hX pE).symm.trans upd_same
      clear hX
      refine ⟨V0, pE, vs, rfl, rfl, sE _ _ eV, eE, _, rfl, ite2 (fun e5 => ?_) (fun e5 => ?_)⟩
      · have lv1 : 1 ≤ vs.length := by
          cases vs with
          | nil => cases e5
          | cons x r => rw [List.length_cons]; omega
        have g7 := gG.same sE
        have eV7 := sE _ _ eV
        refine seq_gen (P := fun σ' G8 => ∃ j : Nat, σ' = [some (.ref D), some (.ref c), some (.int (N : Int)), some (.ref F3), some (.str u.1), some (.ref V0), x6', x7', x8', some od, some (.int (j : Int))] ∧ Go D G0' G8 ∧ OkV K G8 [F3, D] od ∧ G8 F3 = some (.lst xs3) ∧ VL K G8 [F3, D] xs3 ∧ G8 V0 = some (.lst vs) ∧ VL K G8 [F3, D] vs ∧ G8 p = some (.lst (ns.map V.str))) (fun M hM => ?_) ?_
        · refine ⟨_, rfl, _, rfl, _, _, rfl, .inl ⟨_, .inl (.inl eV7), rfl⟩, D, _, rfl, g7.2, by omega, by omega, fun r A r0 r1 ga _ => ?_⟩
          obtain ⟨j, rfl⟩ : ∃ j : Nat, r = (j : Int) := ⟨r.toNat, by omega⟩
          exact hM _ _ ⟨j, rfl, g7.trans ga, (oo.same sE).go (by simp) g7.2 ga, ga.1 _ _ dF3 (sE _ _ eF), (vx.same sE).go (by simp) g7.2 ga, ga.1 _ _ dV eV7, (vl.same sE).go (by simp) g7.2 ga, ga.1 _ _ dp (sE _ _ ep)⟩
        clear eV vl vx eF gG ep oo eV7 g7
        rintro _ G8 ⟨j, rfl, gG, oo, eF, vx, eV, vl, ep⟩
        refine ⟨_, rfl, .inl ⟨rfl, _, .inl (.inl eF)⟩, ?_⟩

        refine ⟨_, rfl, _, rfl, ?_⟩
        refine no_part ?_
        refine ⟨_, rfl, _, rfl, V0, vs, rfl, .inl (.inl eV), fun pG81 nG81 => ?_⟩
        have dpG81 := gG.2.ne nG81
        have qpG81 := gG.free nG81
        generalize hX : upd G8 pG81 _ = HG81
        have s_HG81 : Same G8 HG81 := by
          rw [← hX]
          exact same_upd nG81
        have eG81 := (congrFun hX pG81).symm.trans upd_same
        clear hX
        have gG := gG.same s_HG81
        have eV := s_HG81 _ _ eV
        have eF := s_HG81 _ _ eF
        have vl := vl.same s_HG81
        have vx := vx.same s_HG81
        have ep := s_HG81 _ _ ep
        have oo := oo.same s_HG81
        refine ⟨pG81, _, rfl, .inl ⟨.inl (.inl eG81), fun pG82 nG82 => ?_⟩⟩
        have dpG82 := gG.2.ne nG82
        have qpG82 := gG.free nG82
        generalize hX : upd HG81 pG82 _ = HG82
        have s_HG82 : Same HG81 HG82 := by
          rw [← hX]
          exact same_upd nG82
        have eG82 := (congrFun hX pG82).symm.trans upd_same
        clear hX
        have gG := gG.same s_HG82
        have eV := s_HG82 _ _ eV
        have eF := s_HG82 _ _ eF
        have vl := vl.same s_HG82
        have vx := vx.same s_HG82
        have ep := s_HG82 _ _ ep
        have oo := oo.same s_HG82
        have eG81 := s_HG82 _ _ eG81
        skip
        have oG82 : OkV K HG82 [F3, D] (.ref pG82) := OkV.tup (.inl (.inl eG82)) (vl.cut _ _) (Nat.le_trans (cut_le _ _ _) (by omega))
        refine ⟨_, rfl, by show 1 ≤ sizeLine; decide, fun pG83 nG83 => ?_⟩
        have dpG83 := gG.2.ne nG83
        have qpG83 := gG.free nG83
        generalize hX : upd HG82 pG83 _ = HG83
        have s_HG83 : Same HG82 HG83 := by
          rw [← hX]
          exact same_upd nG83
        have eG83 := (congrFun hX pG83).symm.trans upd_same
        clear hX
        have gG := gG.same s_HG83
        have eV := s_HG83 _ _ eV
        have eF := s_HG83 _ _ eF
        have vl := vl.same s_HG83
        have vx := vx.same s_HG83
        have ep := s_HG83 _ _ ep
        have oo := oo.same s_HG83
        have eG81 := s_HG83 _ _ eG81
        have eG82 := s_HG83 _ _ eG82
        have oG82 := oG82.same s_HG83
        have oG83 : OkV K HG83 [F3, D] (.ref pG83) := OkV.tup (.inl (.inl eG83)) (VL.cons oo VL.nil) (Nat.le_of_ble_eq_true rfl)
        refine cat_tupR (.inl (.inl eG82)) (.inl (.inl eG83)) (List.cons_ne_nil _ _) (by first | (have := cut_le vs none (some (j : Int)); show (cutV vs none (some (j : Int))).length + 1 < 16000; omega) | (rw [List.length_append]; have := cut_le vs none (some (j : Int)); show (cutV vs none (some (j : Int))).length + 1 ≤ 4200; omega)) (fun HG84 pG84 s_HG84 qG84 => ?_)
        have gG := gG.same s_HG84
        have eV := s_HG84 _ _ eV
        have eF := s_HG84 _ _ eF
        have vl := vl.same s_HG84
        have vx := vx.same s_HG84
        have ep := s_HG84 _ _ ep
        have oo := oo.same s_HG84
        have eG81 := s_HG84 _ _ eG81
        have eG82 := s_HG84 _ _ eG82
        have oG82 := oG82.same s_HG84
        have oG83 := oG83.same s_HG84
        have oG84 : OkV K HG84 [F3, D] (.ref pG84) := OkV.tup qG84 (VL.app (vl.cut _ _) (VL.cons oo VL.nil)) (by first | (have := cut_le vs none (some (j : Int)); show (cutV vs none (some (j : Int))).length + 1 < 4200; omega) | (rw [List.length_append]; have := cut_le vs none (some (j : Int)); show (cutV vs none (some (j : Int))).length + 1 ≤ 4200; omega))
        refine ⟨_, rfl, _, rfl, _, _, rfl, rfl, _, rfl, ?_⟩
        refine no_part ?_
        refine ⟨V0, vs, rfl, .inl (.inl eV), fun pG85 nG85 => ?_⟩
        have dpG85 := gG.2.ne nG85
        have qpG85 := gG.free nG85
        generalize hX : upd HG84 pG85 _ = HG85
        have s_HG85 : Same HG84 HG85 := by
          rw [← hX]
          exact same_upd nG85
        have eG85 := (congrFun hX pG85).symm.trans upd_same
        clear hX
        have gG := gG.same s_HG85
        have eV := s_HG85 _ _ eV
        have eF := s_HG85 _ _ eF
        have vl := vl.same s_HG85
        have vx := vx.same s_HG85
        have ep := s_HG85 _ _ ep
        have oo := oo.same s_HG85
        have eG81 := s_HG85 _ _ eG81
        have eG82 := s_HG85 _ _ eG82
        have oG82 := oG82.same s_HG85
        have oG83 := oG83.same s_HG85
        have oG84 := oG84.same s_HG85
        have qG84 := Same.sqT s_HG85 qG84
        refine ⟨pG85, _, rfl, .inl ⟨.inl (.inl eG85), fun pG86 nG86 => ?_⟩⟩
        have dpG86 := gG.2.ne nG86
        have qpG86 := gG.free nG86
        generalize hX : upd HG85 pG86 _ = HG86
        have s_HG86 : Same HG85 HG86 := by
          rw [← hX]
          exact same_upd nG86
        have eG86 := (congrFun hX pG86).symm.trans upd_same
        clear hX
        have gG := gG.same s_HG86
        have eV := s_HG86 _ _ eV
        have eF := s_HG86 _ _ eF
        have vl := vl.same s_HG86
        have vx := vx.same s_HG86
        have ep := s_HG86 _ _ ep
        have oo := oo.same s_HG86
        have eG81 := s_HG86 _ _ eG81
        have eG82 := s_HG86 _ _ eG82
        have oG82 := oG82.same s_HG86
        have oG83 := oG83.same s_HG86
        have oG84 := oG84.same s_HG86
        have qG84 := Same.sqT s_HG86 qG84
        have eG85 := s_HG86 _ _ eG85
        skip
        have oG86 : OkV K HG86 [F3, D] (.ref pG86) := OkV.tup (.inl (.inl eG86)) (vl.cut _ _) (Nat.le_trans (cut_le _ _ _) (by omega))
        refine cat_tup qG84 (.inl (.inl eG86)) (by simp) (by have h1 := cut_le vs none (some (j : Int)); have h2 := cut_le vs (some ((j : Int) + 1)) none; simp only [List.length_append, List.length_cons, List.length_nil]; omega) (fun HN pN sN qN => ?_)
        have gG := gG.same sN
        have eV := sN _ _ eV
        have eF := sN _ _ eF
        have vl := vl.same sN
        have vx := vx.same sN
        have ep := sN _ _ ep
        have oo := oo.same sN
        have eG81 := sN _ _ eG81
        have eG82 := sN _ _ eG82
        have oG82 := oG82.same sN
        have oG83 := oG83.same sN
        have oG84 := oG84.same sN
        have qG84 := Same.sqT sN qG84
        have eG85 := sN _ _ eG85
        have eG86 := sN _ _ eG86
        have oG86 := oG86.same sN
        have oN : OkV K HN [F3, D] (.ref pN) := OkV.tup qN (VL.app (VL.app (vl.cut _ _) (VL.cons oo VL.nil)) (vl.cut _ _)) (by have h1 := cut_le vs none (some (j : Int)); have h2 := cut_le vs (some ((j : Int) + 1)) none; simp only [List.length_append, List.length_cons, List.length_nil]; omega)
        refine ⟨by show 2 ≤ sizeLine; decide, fun pG87 nG87 => ?_⟩
        have dpG87 := gG.2.ne nG87
        have qpG87 := gG.free nG87
        generalize hX : upd HN pG87 _ = HG87
        have s_HG87 : Same HN HG87 := by
          rw [← hX]
          exact same_upd nG87
        have eG87 := (congrFun hX pG87).symm.trans upd_same
        clear hX
        have gG := gG.same s_HG87
        have eV := s_HG87 _ _ eV
        have eF := s_HG87 _ _ eF
        have vl := vl.same s_HG87
        have vx := vx.same s_HG87
        have ep := s_HG87 _ _ ep
        have oo := oo.same s_HG87
        have eG81 := s_HG87 _ _ eG81
        have eG82 := s_HG87 _ _ eG82
        have oG82 := oG82.same s_HG87
        have oG83 := oG83.same s_HG87
        have oG84 := oG84.same s_HG87
        have qG84 := Same.sqT s_HG87 qG84
        have eG85 := s_HG87 _ _ eG85
        have eG86 := s_HG87 _ _ eG86
        have oG86 := oG86.same s_HG87
        have oN := oN.same s_HG87
        have oG87 : OkV K HG87 [F3, D] (.ref pG87) := OkV.tup (.inl (.inl eG87)) (VL.cons okn (VL.cons oN VL.nil)) (Nat.le_of_ble_eq_true rfl)
        refine ⟨F3, xs3, _, rfl, rfl, eF, small1000 (by omega), ?_⟩
        exact fin (gG.upd nF3 dF3) upd_same ((VL.app vx (VL.cons oG87 VL.nil)).set (by simp) eF) (by rw [List.length_append]; show xs3.length + 1 ≤ _; omega) (by rw [upd_ne (Ne.symm zp)]; exact ep)
      · exact fin (gG.same sE) (sE _ _ eF) (vx.same sE) (by omega) (sE _ _ ep)
    · obtain ⟨F, xs, x4, x5, x6, x7, x8, x9, x10, rfl, g0, eF, dF, vx, lx, ep⟩ := h
      rw [List.length_map, lns] at lx
      obtain ⟨ds, d1, d2, d3, d4⟩ := vx.dats
      exact ⟨_, rfl, q _ F xs ds g0 eF (d1.at_ (by simp)) (fun d h => by have := d4 d h; omega) (by omega) dF⟩
end
end FS
set_option Elab.async false
set_option linter.all false
set_option maxRecDepth 100000
set_option maxHeartbeats 4000000
namespace FS
open PySem PySem.Spec PyProof.Rows L2
section
variable {P : Program} {w : World} {K : PySem.W.Frag} {mg : Str → Option Value} {base : Heap}
abbrev N_law_due : List Str := ["_law_code_here", "_law_value", "_law_own", "_law_pair", "_law_one"]
theorem sc_law_due : FnScope N_law_due ["_law_code_here", "_law_value"] (defScope s_law_due) := ⟨rfl, rfl, rfl, by decide +kernel, rfl, by decide +kernel, by decide +kernel⟩
theorem ok_l_due {f : Addr} {fd : FuncData} (F : Fun K "_law_due" "_law_due" s_law_due f fd) (T : Nm K mg) (Cl_is_meaning : Cal P w K mg base 2 "_law_is_meaning" ["_law_code_here", "_law_kind", "_law_value"] (spIsMeanL K)) : FnOk P w K mg base CX0 3 f fd ["_law_code_here", "_law_value"] (spDueC K) := by
  have nd := sc_law_due.nd
  refine F.ok sc_law_due (fun vs H Q E h => ?_) (fun cdv A outer s H vs Q E hr h => ?_)
  · obtain ⟨D, c, m, b, us, v, d, rfl, ca, hv, dw, q⟩ := h
    rfl
  · obtain ⟨D, c, m, b, us, v, d, rfl, ca, hv, dw, q⟩ := h
    skip
    refine ⟨_, (pss_cons (ps_if (PW.pt (pw_or (pt_not (pt_val (pe_callB call_isi (by rfl) T.b_isinstance (by decide +kernel) (pa_cons (pv 1) (pa_cons (pe_bltn (v := .ty "tuple") (by rfl) T.b_tuple (by decide +kernel) rfl) pa_nil))))) (pw_or (pt_cmpR op_ne (pe_callB call_len (by rfl) T.b_len PySem.boot_len (pa_cons (pv 1) pa_nil)) pe_int (nomark _)) (pw_or1 (pt_not (pt_val (pe_callB call_isi (by rfl) T.b_isinstance (by decide +kernel) (pa_cons (pe_ix ix_tup (pv 1) pe_int (fun _ _ => rfl)) (pa_cons (pe_bltn (v := .ty "str") (by rfl) T.b_str (by decide +kernel) rfl) pa_nil)))))))))
  (pss_one (ps_ret pe_bl))
  pss_nil)
  (pss_cons (ps_if (pt_cmp (pc_dnotin (u1 hr) (pe_ix ix_tup (pv 1) pe_int (fun _ _ => rfl)) (pe_dget (u1 hr) (pv 0) pe_str (fun _ _ => rfl))))
  (pss_one (ps_ret pe_bl))
  pss_nil)
  (pss_cons (ps_set (i := 2) nd rfl (Or.inl rfl) (pe_ix ix_tup (pe_dget (u1 hr) (pe_dget (u1 hr) (pv 0) pe_str (fun _ _ => rfl)) (pe_ix ix_tup (pv 1) pe_int (fun _ _ => rfl)) (fun _ _ => rfl)) pe_int (fun _ _ => rfl)))
  (pss_cons (ps_if (PW.pt (pw_or (pt_not (pt_val (pe_callB call_isi (by rfl) T.b_isinstance (by decide +kernel) (pa_cons (pe_ix ix_tup (pv 1) pe_int (fun _ _ => rfl)) (pa_cons (pe_bltn (v := .ty "tuple") (by rfl) T.b_tuple (by decide +kernel) rfl) pa_nil))))) (pw_or1 (pt_cmpR op_ne (pe_callB call_len (by rfl) T.b_len PySem.boot_len (pa_cons (pe_ix ix_tup (pv 1) pe_int (fun _ _ => rfl)) pa_nil)) (pe_callB call_len (by rfl) T.b_len PySem.boot_len (pa_cons (pv 2) pa_nil)) (nomark _)))))
  (pss_one (ps_ret pe_bl))
  pss_nil)
  (pss_one (ps_ret (pe_cmpR (op_eqL0 hr) (pe_lc (own := [("_law_pair", 3), ("_law_one", 4)]) (g := gTup K 2 (gCons (gName 3) (gCons (gName 4) gNil))) rfl nd (RZ.pi_zipA (by rfl) T.b_zip (pa_cons (pv 2) (pa_cons (pe_ix ix_tup (pv 1) pe_int (fun _ _ => rfl)) pa_nil))) (blkOk_by (own := [("_law_pair", 3), ("_law_one", 4)]) (N := N_law_due) (sc := defScope s_law_due) (by decide +kernel)) (fun _ _ _ _ _ => (pg_tup rfl (pgs_cons (pg_name (i := 3) nd rfl (Or.inl rfl)) (pgs_cons (pg_name (i := 4) nd rfl (Or.inl rfl)) pgs_nil)))) (fun _ _ _ _ _ => pts_one (pt_not (pt_val (pe_own Cl_is_meaning (hr.mono (by decide)) (by rfl) (pa_cons (pv 0) (pa_cons (pe_ix (ix_tupK (K := K) rfl) (pv 3) pe_int (fun _ _ => rfl)) (pa_cons (pv 4) pa_nil))))))) (fun _ _ _ _ _ => pe_int)) (pe_lst pa_nil) (nomark _)))))))), ?_⟩

    have ca' := ca
    obtain ⟨pd, sl, pl, w', kvs, h1, h2, h3, h4, h5, -⟩ := ca
    obtain ⟨t, ty, kt⟩ := hv.isTup
    have no : ctxB (ktOf us) (szN m b) d = false → ∀ H', Same H H' → Q (.bl false) H' := fun h => by
      rw [h] at q
      exact q
    cases hv with
    | @tup a xs ds s r =>
      have tl := wide_tup dw
      refine ⟨_, rfl, _, _, _, _, true, rfl, .ty "tuple", ty, kt, true, rfl, iteF ?_⟩
      refine ⟨_, rfl, _, _, rfl, .inr ⟨_, s, rfl⟩, rfl, _, rfl, ite2 (fun e2 => ?_) (fun e2 => ?_)⟩
      · have hl : xs.length ≠ 2 := vne_t (m := 2) e2
        rw [r.len] at hl
        exact no (ctxB_not fun z es h => by cases h; exact hl rfl) _ (.refl H)
      have hl : xs.length = 2 := vne_f (m := 2) e2
      rw [r.len] at hl
      obtain ⟨d1, d2, rfl⟩ : ∃ d1 d2, ds = [d1, d2] := by
        match ds, hl with
        | [d1, d2], _ => exact ⟨d1, d2, rfl⟩
      have wd2 := tl.2 d2 (by simp)
      cases r with
      | @cons x1 _ _ _ a1 r => cases r with
        | @cons x2 _ _ _ a2 r =>
        cases r
        obtain ⟨t1, ty1, k1⟩ := a1.isStr
        obtain ⟨t2, ty2, k2⟩ := a2.isTup
        cases a1 with
        | str z hz =>
          refine ⟨_, rfl, a, _, 0, _, rfl, rfl, s, FS.at0, _, _, _, _, true, rfl, .ty "str", ty1, k1, true, rfl, iteF ?_⟩
          refine ⟨_, rfl, a, _, 0, _, rfl, rfl, s, FS.at0, _, rfl, c, _, rfl, code_procs h1, pd, _, rfl, DGet.k (k := Sum.inr z) h2, _, rfl, ?_⟩
          rcases h3.get z with ⟨v1, v2, v3⟩ | ⟨tq, ov, bv, u, v1, sq, dp, po, wd, rfl, v2⟩
          · rw [v1]
            refine iteT (no ?_ _ (.refl H))
            cases d2 with
            | tup es =>
              rw [ctxB_at, v2]
            | _ => exact ctxB_not fun z es h => by cases h
          rw [v1]
          refine iteF ?_
          obtain ⟨pa, ps, rfl, sp, rp⟩ := Dp.tup_inv (show Dp K H ov (.tuple (u.2.1.map parD)) from dp)
          refine ⟨_, rfl, c, _, rfl, code_procs h1, _, rfl, a, _, 0, _, rfl, rfl, s, FS.at0, pd, _, rfl, v1 ▸ DGet.k (k := Sum.inr u.1) h2, tq, _, 0, _, rfl, rfl, sq, FS.at0, ?_⟩
          generalize hks : u.2.1.map (·.2) = ks at v2
          have lks : ks.length = u.2.1.length := by rw [← hks, List.length_map]
          have lps : ps.length = u.2.1.length := by rw [DpAll.len rp, List.length_map]
          cases a2 with
          | @tup a' ms es s' r' =>
            have tl2 := wide_tup wd2
            have rl := r'.len
            have q : ∀ H', Same H H' → Q (.bl (meansB (szN m b) ks es)) H' := by
              rw [ctxB_at, v2] at q
              exact q
            refine ⟨_, rfl, a, _, 1, _, rfl, rfl, s, at1, _, _, _, _, true, rfl, .ty "tuple", ty2, k2, true, rfl, iteF ?_⟩
            refine ⟨_, rfl, a, _, 1, _, rfl, rfl, s, at1, _, _, rfl, .inr ⟨_, s', rfl⟩, _, rfl, _, _, rfl, .inr ⟨_, sp, rfl⟩, rfl, _, rfl, ite2 (fun e3 => ?_) (fun e3 => ?_)⟩
            · have h3 := vne_t e3
              rw [means_len ks es (by omega)] at q
              exact q _ (.refl H)
            have h3 := vne_f e3
            refine ⟨_, rfl, _, rfl, a, _, 1, _, rfl, rfl, s, at1, pa, a', ps, ms, rfl, .inr ⟨sp, s', fun L nL => ?_⟩⟩
            refine lc_it (walk_zipT (n := ps.length) (by omega)) (fun i H' => Same H H' ∧ ∃ ys, H' L = some (.lst ys) ∧ ys.length ≤ i ∧ ys.isEmpty = meansB (szN m b) (ks.take i) (es.take i)) ⟨same_upd nL, [], upd_same, Nat.le_refl _, rfl⟩ (fun i H' hi h => ⟨Same.sqT h.1 sp, Same.sqT h.1 s'⟩) (fun i v H2 H3 hi h y => ?_) (fun H' h => ?_)
            · obtain ⟨sm, ys, eL, ly, em⟩ := h
              obtain ⟨T, x1, y1, rfl, nT, rfl, hx, hy⟩ := y
              obtain ⟨dx, hdx, dpx⟩ := DpAll.get rp hx
              rw [List.getElem?_map] at hdx
              obtain ⟨pr, hpr, rfl⟩ := Option.map_eq_some_iff.mp hdx
              obtain ⟨a1, rfl, sq1⟩ := par_open dpx
              have hk : ks[i]? = some pr.2 := by rw [← hks, List.getElem?_map, hpr]; rfl
              obtain ⟨d, hd, ad⟩ := r'.get hy
              have sT : Same H2 (upd H2 T (.tup [.ref a1, y1])) := same_upd nT
              have smT := sm.trans sT
              refine ⟨T, _, rfl, .inl (.inl upd_same), rfl, _, _, rfl, _, _, rfl, rfl, rfl, ?_⟩
              refine ⟨_, rfl, _, rfl, a1, _, 1, _, rfl, rfl, Same.sqT smT sq1, at1, _, rfl, D, c, m, b, pr.2, us, y1, d, rfl, ca'.same smT, ad.same smT, tl2.2 d (List.mem_of_getElem? hd), fun H4 s4 => ⟨_, rfl, ?_⟩⟩
              have tk := means_snoc (N := szN m b) (ks.take i) (es.take i) pr.2 d (by rw [List.length_take, List.length_take]; omega)
              rw [← take_more hk, ← take_more hd, ← em] at tk
              have sm4 := smT.trans s4
              have eL4 := s4 _ _ (sT _ _ eL)
              cases hb : meanB (szN m b) pr.2 d with
              | true =>
                rw [hb, Bool.and_true] at tk
                exact iteF ⟨sm4, ys, eL4, by omega, tk.symm⟩
              | false =>
                rw [hb, Bool.and_false] at tk
                refine iteT ⟨ys, eL4, by rw [sizeLine_eq]; omega, Same.set sm4 nL, ys ++ [.int 1], upd_same, by rw [List.length_append]; exact Nat.succ_le_succ ly, ?_⟩
                rw [tk]
                cases ys <;> rfl
            · obtain ⟨sm, ys, eL, ly, em⟩ := h
              rw [lps, ← lks, List.take_length, show ks.length = es.length by omega, List.take_length] at em
              refine ⟨Nat.zero_le _, fun pe ne => ?_⟩
              have se := same_upd (o := .lst []) ne
              refine ⟨L, pe, ys, rfl, rfl, se _ _ eL, upd_same, ?_⟩
              have := q _ (sm.trans se)
              rw [← em] at this
              exact this
          | _ => exact ⟨_, rfl, a, _, 1, _, rfl, rfl, s, at1, _, _, _, _, false, rfl, .ty "tuple", ty2, k2, false, rfl, iteT (no (ctxB_not fun z es h => by cases h) _ (.refl H))⟩
        | _ => exact ⟨_, rfl, a, _, 0, _, rfl, rfl, s, FS.at0, _, _, _, _, false, rfl, .ty "str", ty1, k1, false, rfl, iteT (no (ctxB_not fun z es h => by cases h) _ (.refl H))⟩
    | _ => exact ⟨_, rfl, _, _, _, _, false, rfl, .ty "tuple", ty, kt, false, rfl, iteT (no (ctxB_not fun z es h => by cases h) _ (.refl H))⟩
end
end FS
set_option Elab.async false
set_option linter.all false
set_option maxRecDepth 100000
set_option maxHeartbeats 4000000
namespace FS
open PySem PySem.Spec PyProof.Rows L2
section
variable {P : Program} {w : World} {K : PySem.W.Frag} {mg : Str → Option Value} {base : Heap}
abbrev N_law_is_meaning : List Str := ["_law_code_here", "_law_kind", "_law_value", "_law_one"]
theorem sc_law_is_meaning : FnScope N_law_is_meaning ["_law_code_here", "_law_kind", "_law_value"] (defScope s_law_is_meaning) := ⟨rfl, rfl, rfl, by decide +kernel, rfl, by decide +kernel, by decide +kernel⟩
theorem ok_l_is_meaning {f : Addr} {fd : FuncData} (F : Fun K "_law_is_meaning" "_law_is_meaning" s_law_is_meaning f fd) (T : Nm K mg) (Cl_is_relation : Cal P w K mg base 1 "_law_is_relation" ["_law_code_here", "_law_value"] (spIsRelL K)) : FnOk P w K mg base CX0 2 f fd ["_law_code_here", "_law_kind", "_law_value"] (spIsMeanL K) := by
  have nd := sc_law_is_meaning.nd
  refine F.ok sc_law_is_meaning (fun vs H Q E h => ?_) (fun cdv A outer s H vs Q E hr h => ?_)
  · obtain ⟨D, c, m, b, k, us, v, d, rfl, ca, hv, dw, q⟩ := h
    rfl
  · obtain ⟨D, c, m, b, k, us, v, d, rfl, ca, hv, dw, q⟩ := h
    skip
    refine ⟨_, (pss_cons (ps_if (pt_cmpR op_eq (pv 1) pe_str (nomark _))
  (pss_one (ps_ret (pe_own Cl_is_relation (hr.mono (by decide)) (by rfl) (pa_cons (pv 0) (pa_cons (pv 2) pa_nil)))))
  pss_nil)
  (pss_cons (ps_if (PW.pt (pw_or (pt_not (pt_val (pe_callB call_isi (by rfl) T.b_isinstance (by decide +kernel) (pa_cons (pv 2) (pa_cons (pe_bltn (v := .ty "tuple") (by rfl) T.b_tuple (by decide +kernel) rfl) pa_nil))))) (pw_or1 (pt_cmpR op_ne (pe_callB call_len (by rfl) T.b_len PySem.boot_len (pa_cons (pv 2) pa_nil)) (pe_ix ix_list (pe_ix ix_list (pe_dget (u1 hr) (pv 0) pe_str (fun _ _ => rfl)) pe_int (fun _ _ => rfl)) (pe_un un_neg pe_int) (fun _ _ => rfl)) (nomark _)))))
  (pss_one (ps_ret pe_bl))
  pss_nil)
  (pss_one (ps_ret (pe_cmpR (op_eqL0 hr) (pe_lc (own := [("_law_one", 3)]) (g := gName 3) rfl nd (pi_tup (pv 2)) (blkOk_by (own := [("_law_one", 3)]) (N := N_law_is_meaning) (sc := defScope s_law_is_meaning) (by decide +kernel)) (fun _ _ _ _ _ => (pg_name (i := 3) nd rfl (Or.inl rfl))) (fun _ _ _ _ _ => pts_one (pt_not (pt_val (pe_own Cl_is_relation (hr.mono (by decide)) (by rfl) (pa_cons (pv 0) (pa_cons (pv 3) pa_nil)))))) (fun _ _ _ _ _ => (pv 3))) (pe_lst pa_nil) (nomark _)))))), ?_⟩

    cases k with
    | false =>
      refine ⟨_, rfl, rfl, _, rfl, ?_⟩
      rw [show V.str "block" = V.str (kd false) from rfl, kd_is]
      refine iteT ?_
      exact ⟨_, rfl, _, rfl, D, c, m, b, us, v, d, rfl, ca, hv, q H (.refl H)⟩
    | true =>
    refine ⟨_, rfl, rfl, _, rfl, ?_⟩
    rw [show V.str "block" = V.str (kd false) from rfl, kd_is]
    refine iteF ?_
    have q : ∀ H', Same H H' → Q (.bl (tblB (szN m b) d)) H' := q
    obtain ⟨t, ty, kt⟩ := hv.isTup
    have tq : ∀ {b' : Bool}, tblB (szN m b) d = b' → ∀ H', Same H H' → Q (.bl b') H' := fun h => by
      subst h
      exact q
    have ca' := ca
    obtain ⟨pd, sl, pl, w', kvs, h1, h2, h3, h4, h5, -⟩ := ca
    cases hv with
    | @tup t1 xs ds s r =>
      obtain ⟨dl, -⟩ := wide_tup dw
      have rl := r.len
      have q : ∀ H', Same H H' → Q (.bl (decide (ds.length = szN m b) && ds.all (relB (szN m b)))) H' := q
      refine ⟨_, rfl, _, _, _, _, true, rfl, .ty "tuple", ty, kt, true, rfl, iteF ?_⟩
      refine ⟨_, rfl, _, _, rfl, .inr ⟨_, s, rfl⟩, ?_⟩
      refine ⟨_, rfl, c, _, rfl, code_space h1, sl, _, 2, _, rfl, rfl, .inl (.inl h4), rfl, _, rfl, pl, _, _, _, rfl, rfl, .inl (.inl h5), powL_last _, rfl, _, rfl, ?_⟩
      refine ite2 (fun e2 => ?_) (fun e2 => ?_)
      · have hl := vne_t e2
        rw [rl] at hl
        replace hl : ds.length ≠ szN m b := hl
        have := q H (.refl H)
        rw [decide_eq_false hl, Bool.false_and] at this
        exact this
      have hl := vne_f e2
      rw [rl] at hl
      replace hl : ds.length = szN m b := hl
      rw [decide_eq_true hl, Bool.true_and] at q
      refine ⟨_, rfl, t1, rfl, ⟨_, s⟩, fun L nL => ?_⟩
      have tkx : ∀ {i : Nat} {d : Dat}, ds[i]? = some d → (ds.take (i + 1)).all (relB (szN m b)) = ((ds.take i).all (relB (szN m b)) && relB (szN m b) d) := fun hd => by
        rw [take_more hd, List.all_append, List.all_cons, List.all_nil, Bool.and_true]
      refine lc_tup (xs := xs) (fun i H' => Same H H' ∧ ∃ ys, H' L = some (.lst ys) ∧ ys.length ≤ i ∧ ys.isEmpty = (ds.take i).all (relB (szN m b))) ⟨same_upd nL, [], upd_same, Nat.le_refl _, rfl⟩ (fun i H' hi h => Same.sqT h.1 s) (fun i x H2 hx h => ?_) (fun H' h => ?_)
      · obtain ⟨sm, ys, eL, ly, em⟩ := h
        obtain ⟨d, hd, ad⟩ := r.get hx
        have li := (List.getElem?_eq_some_iff.mp hx).1
        refine ⟨rfl, _, rfl, _, rfl, D, c, m, b, us, x, d, rfl, ca'.same sm, ad.same sm, _, rfl, ?_⟩
        have tk := tkx hd
        rw [← em] at tk
        cases hb : relB (szN m b) d with
        | true =>
          rw [hb, Bool.and_true] at tk
          exact iteF ⟨sm, ys, eL, by omega, tk.symm⟩
        | false =>
          rw [hb, Bool.and_false] at tk
          refine iteT ⟨_, rfl, ys, eL, by rw [sizeLine_eq]; omega, Same.set sm nL, ys ++ [x], upd_same, by rw [List.length_append]; exact Nat.succ_le_succ ly, ?_⟩
          rw [tk]
          cases ys <;> rfl
      · obtain ⟨sm, ys, eL, ly, em⟩ := h
        rw [rl, List.take_length] at em
        refine ⟨Nat.zero_le _, fun pe ne => ?_⟩
        have se := same_upd (o := .lst []) ne
        refine ⟨L, pe, ys, rfl, rfl, se _ _ eL, upd_same, ?_⟩
        have := q _ (sm.trans se)
        rw [← em] at this
        exact this
    | _ => exact ⟨_, rfl, _, _, _, _, false, rfl, .ty "tuple", ty, kt, false, rfl, iteT (tq rfl _ (.refl H))⟩
end
end FS
set_option Elab.async false
set_option linter.all false
set_option maxRecDepth 100000
set_option maxHeartbeats 4000000
namespace FS
open PySem PySem.Spec PyProof.Rows L2
section
variable {P : Program} {w : World} {K : PySem.W.Frag} {mg : Str → Option Value} {base : Heap}
abbrev N_law_is_relation : List Str := ["_law_code_here", "_law_value"]
theorem sc_law_is_relation : FnScope N_law_is_relation ["_law_code_here", "_law_value"] (defScope s_law_is_relation) := ⟨rfl, rfl, rfl, by decide +kernel, rfl, by decide +kernel, by decide +kernel⟩
theorem ok_l_is_relation {f : Addr} {fd : FuncData} (F : Fun K "_law_is_relation" "_law_is_relation" s_law_is_relation f fd) (T : Nm K mg) : FnOk P w K mg base CX0 1 f fd ["_law_code_here", "_law_value"] (spIsRelL K) := by
  have nd := sc_law_is_relation.nd
  refine F.ok sc_law_is_relation (fun vs H Q E h => ?_) (fun cdv A outer s H vs Q E hr h => ?_)
  · obtain ⟨D, c, m, b, us, v, d, rfl, ca, hv, q⟩ := h
    rfl
  · obtain ⟨D, c, m, b, us, v, d, rfl, ca, hv, q⟩ := h
    skip
    refine ⟨_, (pss_one (ps_ret (pe_and (pe_callB call_isi (by rfl) T.b_isinstance (by decide +kernel) (pa_cons (pv 1) (pa_cons (pe_bltn (v := .ty "int") (by rfl) T.b_int (by decide +kernel) rfl) pa_nil))) (pe_and (pe_not (pe_callB call_isi (by rfl) T.b_isinstance (by decide +kernel) (pa_cons (pv 1) (pa_cons (pe_bltn (v := .ty "bool") (by rfl) T.b_bool (by decide +kernel) rfl) pa_nil)))) (pe_one (pe_chain op_le op_lt pe_int (pv 1) (pe_ix ix_list (pe_ix ix_list (pe_dget (u1 hr) (pv 0) pe_str (fun _ _ => rfl)) pe_int (fun _ _ => rfl)) (pe_un un_neg pe_int) (fun _ _ => rfl)))))))), ?_⟩

    obtain ⟨pd, sl, pl, w', kvs, h1, h2, h3, h4, h5, -⟩ := ca
    obtain ⟨t1, ty1, k1⟩ := hv.isInt
    obtain ⟨t2, ty2, k2⟩ := hv.isBool
    have no : d.isI = false → relB (szN m b) d = false := fun e => by
      cases d <;> first | rfl | cases e
    by_cases hi : d.isI = true
    · rw [hi] at k1
      refine ⟨_, rfl, _, _, _, _, true, rfl, .ty "int", ty1, k1, true, rfl, ?_⟩
      cases hv with
      | bl b' => exact ⟨_, rfl, _, _, _, _, true, rfl, .ty "bool", ty2, k2, true, rfl, false, rfl, q⟩
      | int i =>
        refine ⟨_, rfl, _, _, _, _, false, rfl, .ty "bool", ty2, k2, false, rfl, true, rfl, iteT ?_⟩
        have eb : relB (szN m b) (.int i) = (decide (0 ≤ i) && decide (i < (szN m b : Int))) := relB_case (.int i)
        rw [eb] at q
        refine ⟨_, rfl, _, _, rfl, rfl, _, rfl, ite2 (fun e1 => ?_) (fun e1 => ?_)⟩
        · refine ⟨_, rfl, c, _, rfl, code_space h1, sl, _, 2, _, rfl, rfl, .inl (.inl h4), rfl, _, rfl, pl, _, _, _, rfl, rfl, .inl (.inl h5), powL_last _, _, _, rfl, rfl, ?_⟩
          rw [e1, Bool.true_and] at q
          exact q
        · rw [Bool.not_eq_true _ |>.mp e1, Bool.false_and] at q
          exact q
      | _ => cases hi
    · have hi := Bool.not_eq_true _ |>.mp hi
      rw [hi] at k1
      rw [no hi] at q
      exact ⟨_, rfl, _, _, _, _, false, rfl, .ty "int", ty1, k1, false, rfl, q⟩
end
end FS
set_option Elab.async false
set_option linter.all false
set_option maxRecDepth 100000
set_option maxHeartbeats 4000000
namespace FS
open PySem PySem.Spec PyProof.Rows L2
section
variable {P : Program} {w : World} {K : PySem.W.Frag} {mg : Str → Option Value} {base : Heap}
abbrev N_law_code : List Str := ["_law_plain_here", "_law_word"]
theorem sc_law_code : FnScope N_law_code ["_law_plain_here", "_law_word"] (defScope s_law_code) := ⟨rfl, rfl, rfl, by decide +kernel, rfl, by decide +kernel, by decide +kernel⟩
theorem ok_l_code {f : Addr} {fd : FuncData} (F : Fun K "_law_code" "_law_code" s_law_code f fd) (T : Nm K mg) (Cl_by_name : Cal P w K mg base 1 "_law_by_name" ["_law_plain_here"] (spByNameL K)) (Cl_space : Cal P w K mg base 2 "_law_space" ["_law_modes", "_law_is_watched"] spSpaceL) : FnOk P w K mg base CX0 3 f fd ["_law_plain_here", "_law_word"] (spCodeL K) := by
  have nd := sc_law_code.nd
  refine F.ok sc_law_code (fun vs H Q E h => ?_) (fun cdv A outer s H vs Q E hr h => ?_)
  · obtain ⟨D, p, rl, m, tb, rs, us, w', rfl, dD, ep, er, rw0, l8, ndn, ow, m1, m3, q⟩ := h
    rfl
  · obtain ⟨D, p, rl, m, tb, rs, us, w', rfl, dD, ep, er, rw0, l8, ndn, ow, m1, m3, q⟩ := h
    skip
    refine ⟨_, (pss_one (ps_ret (pe_disp (pps_cons pe_str (pe_own Cl_by_name (hr.mono (by decide)) (by rfl) (pa_cons (pv 0) pa_nil)) (pps_cons pe_str (pe_own Cl_space (hr.mono (by decide)) (by rfl) (pa_cons (pe_ix ix_list (pv 0) pe_int (fun _ _ => rfl)) (pa_cons (pe_cmpR op_notN (pv 1) pe_non (nomark _)) pa_nil))) (pps_cons pe_str (pv 1) pps_nil))) rfl rfl (List.cons_ne_nil _ _) (Nat.le_of_ble_eq_true rfl)))), ?_⟩

    have ew : (!decide (w' = V.non)) = wdB w' := by
      unfold wdB
      exact (decide_not ..).symm
    refine fun c nc => ?_
    generalize hX : upd H c _ = H1
    have s1 : Same H H1 := by
      rw [← hX]
      exact same_upd nc
    have e1 := (congrFun hX c).symm.trans upd_same
    clear hX
    refine ⟨_, rfl, p, rl, m, tb, rs, us, rfl, s1 _ _ ep, s1 _ _ er, rw0.tk (.of s1), l8, ndn, fun H2 pd kvs s2 npd epd pv0 => ?_⟩
    refine ⟨_, rfl, p, _, 0, _, rfl, rfl, .inl (.inl (s2 _ _ (s1 _ _ ep))), rfl, _, rfl, rfl, m, wdB w', ?_, m1, m3, fun H3 sl pl s3 nsl npl epl esl => ?_⟩
    · rw [← ew]
      rfl
    have g12 : Go D H H2 := .of dD (s1.trans s2)
    have e3 := s3 _ _ (s2 _ _ e1)
    refine ⟨_, rfl, e3, [(Sum.inr "procs", .ref pd), (Sum.inr "space", .ref sl), (Sum.inr "word", w')], rfl, by show 3 ≤ 15; decide, ?_⟩
    have em : mergeK [] [((Sum.inr "procs" : Key), V.ref pd), (Sum.inr "space", .ref sl), (Sum.inr "word", w')] = codL pd sl w' := by rfl
    rw [em]
    have n3 : sl ≠ c := fun z => by
      rw [z, s2 _ _ e1] at nsl
      cases nsl
    have n4 : pl ≠ c := fun z => by
      rw [z, s2 _ _ e1] at npl
      cases npl
    have tk : TK H3 (upd H3 c (.dK (codL pd sl w'))) := TK.set e3 rfl
    have sF := Same.set (o := .dK (codL pd sl w')) (s1.trans (s2.trans s3)) nc
    have n2 : pd ≠ c := fun z => by
      rw [z, e1] at npd
      cases npd
    exact q _ c sF ⟨pd, sl, pl, w', kvs, upd_same, by rw [upd_ne n2]; exact s3 _ _ epd, (pv0.tk (.of s3)).tk tk, by rw [upd_ne n3]; exact esl, by rw [upd_ne n4]; exact epl, g12.2.ne nsl, g12.2.ne npl, m1, m3⟩
end
end FS
set_option Elab.async false
set_option linter.all false
set_option maxRecDepth 100000
set_option maxHeartbeats 4000000
namespace FS
open PySem PySem.Spec PyProof.Rows L2
section
variable {P : Program} {w : World} {K : PySem.W.Frag} {mg : Str → Option Value} {base : Heap}
abbrev N_law_space : List Str := ["_law_modes", "_law_is_watched", "_law_ends_here"]
theorem sc_law_space : FnScope N_law_space ["_law_modes", "_law_is_watched"] (defScope s_law_space) := ⟨rfl, rfl, rfl, by decide +kernel, rfl, by decide +kernel, by decide +kernel⟩
theorem ok_l_space {f : Addr} {fd : FuncData} (F : Fun K "_law_space" "_law_space" s_law_space f fd) (T : Nm K mg) (Cl_powers : Cal P w K mg base 1 "_law_powers" ["_law_many"] spPow) : FnOk P w K mg base CX0 2 f fd ["_law_modes", "_law_is_watched"] (spSpaceL) := by
  have nd := sc_law_space.nd
  refine F.ok sc_law_space (fun vs H Q E h => ?_) (fun cdv A outer s H vs Q E hr h => ?_)
  · obtain ⟨m, b, rfl, m1, m3, q⟩ := h
    rfl
  · obtain ⟨m, b, rfl, m1, m3, q⟩ := h
    skip
    refine ⟨_, (pss_cons (ps_set (i := 2) nd rfl (Or.inl rfl) (pe_op op_add (pv 0) (pe_callTy call_int1 (by rfl) T.b_int (by decide +kernel) (pa_cons (pv 1) pa_nil))))
  (pss_one (ps_ret (pe_lst (pa_cons (pv 0) (pa_cons (pv 2) (pa_cons (pe_own Cl_powers (hr.mono (by decide)) (by rfl) (pa_cons (pe_op op_mulN (pv 0) (pv 2)) pa_nil)) pa_nil))))))), ?_⟩

    have mw := SQ.men_le (m := m) (b := b) ⟨m1, m3⟩
    have ee : (m : Int) + (if b then 1 else 0) = ((SQ.en m b : Nat) : Int) := by
      unfold SQ.en
      cases b <;> simp [Bool.toNat]
    refine ⟨_, rfl, _, rfl, .inr ⟨b, rfl, _, _, rfl, rfl, ?_⟩⟩
    simp only [ee]
    refine ⟨_, rfl, _, rfl, _, rfl, _, rfl, m, SQ.en m b, rfl, rfl, by omega, m * SQ.en m b, rfl, mw, fun H1 pl s1 npl epl => ?_⟩
    refine ⟨by show 3 ≤ sizeLine; decide, fun p np => ?_⟩
    exact q _ p pl (s1.trans (same_upd np)) (Same.free s1 np) npl ((same_upd np) _ _ epl) upd_same
end
end FS
set_option Elab.async false
set_option linter.all false
set_option maxRecDepth 100000
set_option maxHeartbeats 4000000
namespace FS
open PySem PySem.Spec PyProof.Rows L2
section
variable {P : Program} {w : World} {K : PySem.W.Frag} {mg : Str → Option Value} {base : Heap}
abbrev N_law_powers : List Str := ["_law_many", "_law_found", "_law_turn"]
theorem sc_law_powers : FnScope N_law_powers ["_law_many"] (defScope s_law_powers) := ⟨rfl, rfl, rfl, by decide +kernel, rfl, by decide +kernel, by decide +kernel⟩
theorem ok_l_powers {f : Addr} {fd : FuncData} (F : Fun K "_law_powers" "_law_powers" s_law_powers f fd) (T : Nm K mg) : FnOk P w K mg base CX0 1 f fd ["_law_many"] (spPow) := by
  have nd := sc_law_powers.nd
  refine F.ok sc_law_powers (fun vs H Q E h => ?_) (fun cdv A outer s H vs Q E hr h => ?_)
  · obtain ⟨n, rfl, n12, q⟩ := h
    rfl
  · obtain ⟨n, rfl, n12, q⟩ := h
    skip
    refine ⟨_, (pss_cons (ps_set (i := 1) nd rfl (Or.inl rfl) (pe_lst (pa_cons pe_int pa_nil)))
  (pss_cons (ps_for PassesOwn.never rfl (pi_range1 rfl T.b_range (pa_cons (pv 0) pa_nil)) (pg_name (i := 2) nd rfl (Or.inl rfl))
  (pss_one (ps_expr (pe_bm PySem.F.plainAttrs_list PySem.F.slot_list_append PySem.F.type_list_append mt_append (pv 1) (pa_cons (pe_op op_mulN (pe_ix ix_list (pv 1) (pe_un un_neg pe_int) (fun _ _ => rfl)) pe_int) pa_nil)))))
  (pss_one (ps_ret (pv 1))))), ?_⟩

    refine ⟨by show 1 ≤ sizeLine; decide, fun F nF => ?_⟩
    have s1 := same_upd (o := .lst [V.int 1]) nF
    refine ⟨_, rfl, n, rfl, by omega, by omega, ?_⟩
    refine SQ.for_rgN (n := n) (fun i σ H' => ∃ t, σ = [some (.int (n : Int)), some (.ref F), t] ∧ Same H H' ∧ H' F = some (.lst (powL i))) ⟨none, rfl, s1, upd_same⟩ (fun i σ H3 hi hp => ?_) (fun σ H3 hp => ?_)
    · obtain ⟨t, rfl, s3, eF⟩ := hp
      refine ⟨_, rfl, .inl ⟨rfl, _, .inl (.inl eF)⟩, ?_⟩
      refine ⟨_, rfl, _, rfl, F, _, _, _, rfl, rfl, .inl (.inl eF), powL_last i, 2 ^ i, 2, rfl, rfl, ?_, ?_⟩
      · exact Nat.le_trans (Nat.pow_le_pow_right (n := 2) (by decide) (show i ≤ 12 by omega)) (by decide)
      refine ⟨F, _, _, rfl, rfl, eF, by rw [powL_len]; exact small1000 (by omega), ?_⟩
      refine ⟨_, rfl, Same.set s3 nF, ?_⟩
      rw [upd_same, powL_snoc, Nat.pow_succ]
    · obtain ⟨t, rfl, s3, eF⟩ := hp
      exact ⟨_, rfl, q _ F s3 nF eF⟩
end
end FS
set_option Elab.async false
set_option linter.all false
set_option maxRecDepth 100000
set_option maxHeartbeats 4000000
namespace FS
open PySem PySem.Spec PyProof.Rows L2
section
variable {P : Program} {w : World} {K : PySem.W.Frag} {mg : Str → Option Value} {base : Heap}
abbrev N_law_by_name : List Str := ["_law_plain_here", "_law_name", "_law_own", "_law_body"]
theorem sc_law_by_name : FnScope N_law_by_name ["_law_plain_here"] (defScope s_law_by_name) := ⟨rfl, rfl, rfl, by decide +kernel, rfl, by decide +kernel, by decide +kernel⟩
theorem ok_l_by_name {f : Addr} {fd : FuncData} (F : Fun K "_law_by_name" "_law_by_name" s_law_by_name f fd) (T : Nm K mg) (bdict : mg "dict" = none) : FnOk P w K mg base CX0 1 f fd ["_law_plain_here"] (spByNameL K) := by
  have nd := sc_law_by_name.nd
  refine F.ok sc_law_by_name (fun vs H Q E h => ?_) (fun cdv A outer s H vs Q E hr h => ?_)
  · obtain ⟨p, rl, m, tb, rs, us, rfl, ep, er, rw0, l8, ndn, q⟩ := h
    rfl
  · obtain ⟨p, rl, m, tb, rs, us, rfl, ep, er, rw0, l8, ndn, q⟩ := h
    skip
    refine ⟨_, (pss_one (ps_ret (pe_callTy (call_dictP rfl) (by rfl) bdict (by decide +kernel) (pa_cons (pe_lc (own := [("_law_name", 1), ("_law_own", 2), ("_law_body", 3)]) (g := gTup K 3 (gCons (gName 1) (gCons (gName 2) (gCons (gName 3) gNil)))) (tt := tYes) rfl nd (pi_list (pe_ix ix_list (pv 0) pe_int (fun _ _ => rfl))) (blkOk_by (own := [("_law_name", 1), ("_law_own", 2), ("_law_body", 3)]) (N := N_law_by_name) (sc := defScope s_law_by_name) (by decide +kernel)) (fun _ _ _ _ _ => (pg_tup rfl (pgs_cons (pg_name (i := 1) nd rfl (Or.inl rfl)) (pgs_cons (pg_name (i := 2) nd rfl (Or.inl rfl)) (pgs_cons (pg_name (i := 3) nd rfl (Or.inl rfl)) pgs_nil))))) (fun _ _ _ _ _ => pts_nil) (fun _ _ _ _ _ => (pe_tup (pa_cons (pv 1) (pa_cons (pe_tup (pa_cons (pv 2) (pa_cons (pv 3) pa_nil))) pa_nil))))) pa_nil)))), ?_⟩

    have lr := rw0.len
    refine ⟨_, rfl, p, _, 1, _, rfl, rfl, .inl (.inl ep), rfl, rl, rfl, ⟨_, .inl (.inl er)⟩, fun L nL => ?_⟩
    refine lc_list (xs := rs.map V.ref) (fun i H' => Same H H' ∧ ∃ (ps : List Addr) (kvs : List (Key × V)), H' L = some (.lst (ps.map V.ref)) ∧ Paired (fun p kv => SqT K H' p [kV kv.1, kv.2]) ps kvs ∧ PV K H' kvs (us.take i)) ⟨same_upd nL, [], [], upd_same, .nil, .nil⟩ (fun i H' hi h => .inl (.inl (h.1 _ _ er))) (fun i y H2 hy h => ?_) (fun H2 h => ?_)
    · obtain ⟨sm, ps, kvs, eL, pd, pv0⟩ := h
      obtain ⟨r, ov, bv, u, rfl, hu, sr, dp, g, po, wd⟩ := (rw0.tk (.of sm)).at hy
      have li := (List.getElem?_eq_some_iff.mp hu).1
      refine ⟨r, _, rfl, sr, rfl, _, _, rfl, _, _, rfl, _, _, rfl, rfl, rfl, _, rfl, _, rfl, _, rfl, ?_⟩
      refine ⟨by show 2 ≤ sizeLine; decide, fun t1 n1 => ?_⟩
      generalize hX : upd H2 t1 _ = A1
      have s1 : Same H2 A1 := by
        rw [← hX]
        exact same_upd n1
      have e1 := (congrFun hX t1).symm.trans upd_same
      clear hX
      refine ⟨by show 2 ≤ sizeLine; decide, fun t2 n2 => ?_⟩
      generalize hX : upd A1 t2 _ = A2
      have s2 : Same A1 A2 := by
        rw [← hX]
        exact same_upd n2
      have e2 := (congrFun hX t2).symm.trans upd_same
      clear hX
      have s12 := s1.trans s2
      have eL2 := s12 _ _ eL
      have tk : TK A2 (upd A2 L (.lst (ps.map V.ref ++ [.ref t2]))) := TK.set eL2 rfl
      have lk : ps.length ≤ 8 := by
        have h1 := pv0.len
        have h2 := (paired_len pd)
        rw [List.length_take] at h1
        omega
      refine ⟨ps.map V.ref, eL2, by rw [List.length_map]; exact small1000 (by omega), Same.set (sm.trans s12) nL, ps ++ [t2], kvs ++ [(Sum.inr u.1, .ref t1)], ?_, ?_, ?_⟩
      · rw [upd_same, List.map_append]
        rfl
      · exact Paired.snoc (L2.Paired.mapP pd fun a b h => tk.sqT (Same.sqT s12 h)) (tk.sqT (.inl (.inl e2)))
      · rw [take_more hu]
        exact (pv0.tk ((TK.of s12).trans tk)).app (tk.sqT (.inl (.inl (s2 _ _ e1)))) (Dp.tk ((TK.of s12).trans tk) (pars_noL _) dp) po wd
    · obtain ⟨sm, ps, kvs, eL, pd, pv0⟩ := h
      rw [List.length_map, lr, List.take_length] at pv0
      refine ⟨L, ps, kvs, rfl, .inl (.inl eL), pd, fun q' nq => ?_⟩
      have em : mergeK [] kvs = kvs := by
        refine merge_nd kvs [] ?_
        rw [List.nil_append, pv0.keys]
        exact nodup_inr ndn
      rw [em]
      exact q _ q' kvs (sm.trans (same_upd nq)) (Same.free sm nq) upd_same (pv0.tk (.of (same_upd nq)))
end
end FS
set_option Elab.async false
set_option linter.all false
set_option maxRecDepth 100000
set_option maxHeartbeats 4000000
namespace FS
open PySem PySem.Spec PyProof.Rows L2
section
variable {P : Program} {w : World} {K : PySem.W.Frag} {mg : Str → Option Value} {base : Heap}
abbrev Ncheck_program : List Str := ["value"]
theorem sccheck_program : FnScope Ncheck_program ["value"] (defScope scheck_program) := ⟨rfl, rfl, rfl, by decide +kernel, rfl, by decide +kernel, by decide +kernel⟩
theorem ok_check_program {f : Addr} {fd : FuncData} (F : Fun K "check_program" "check_program" scheck_program f fd) (T : Nm K mg) {CP C : Addr} (PC : PgC K mg CP) : FnOk P w K mg base CX0 1 f fd ["value"] (spChkX K CP C) := by
  have nd := sccheck_program.nd
  refine F.ok sccheck_program (fun vs H Q E h => ?_) (fun cdv A outer s H vs Q E hr h => ?_)
  · obtain ⟨a, m, us, xs, rfl, pg, q⟩ := h
    rfl
  · obtain ⟨a, m, us, xs, rfl, pg, q⟩ := h
    skip
    refine ⟨_, (pss_one (ps_if (pt_not (pt_val (pe_callB call_isi (by rfl) T.b_isinstance (by decide +kernel) (pa_cons (pv 0) (pa_cons (pe_glob (v := .ref CP) (by rfl) PC.gC rfl) pa_nil)))))
  (pss_one ps_never)
  pss_nil)), ?_⟩

    have pg' := pg
    obtain ⟨dx, pv', dv, nv, wv, kvs, ns, ws, h1, -⟩ := pg
    exact ⟨_, rfl, _, _, _, _, true, rfl, .own CP, .base (.ins h1 PC.cl PC.ha PC.hn PC.htk PC.hm), PC.self, true, rfl, iteF q⟩
end
end FS
set_option Elab.async false
set_option linter.all false
set_option maxRecDepth 100000
set_option maxHeartbeats 4000000
namespace FS
open PySem PySem.Spec PyProof.Rows L2
section
variable {P : Program} {w : World} {K : PySem.W.Frag} {mg : Str → Option Value} {base : Heap}
abbrev Ncheck_word : List Str := ["value"]
theorem sccheck_word : FnScope Ncheck_word ["value"] (defScope scheck_word) := ⟨rfl, rfl, rfl, by decide +kernel, rfl, by decide +kernel, by decide +kernel⟩
theorem ok_check_word {f : Addr} {fd : FuncData} (F : Fun K "check_word" "check_word" scheck_word f fd) (T : Nm K mg) (Cis_name : Cal P w K mg base 1 "is_name" ["value"] spName) : FnOk P w K mg base CX0 2 f fd ["value"] (spWord) := by
  have nd := sccheck_word.nd
  refine F.ok sccheck_word (fun vs H Q E h => ?_) (fun cdv A outer s H vs Q E hr h => ?_)
  · obtain ⟨z, rfl, wz, q⟩ := h
    rfl
  · obtain ⟨z, rfl, wz, q⟩ := h
    skip
    refine ⟨_, (pss_one (ps_if (pt_not (pt_val (pe_own Cis_name (hr.mono (by decide)) (by rfl) (pa_cons (pv 0) pa_nil))))
  (pss_one ps_never)
  pss_nil)), ?_⟩

    refine ⟨_, rfl, z, rfl, word_small wz, fun H1 s1 => ⟨_, rfl, ?_⟩⟩
    rw [wz]
    exact iteF (q _ s1)
end
end FS
set_option Elab.async false
set_option linter.all false
set_option maxRecDepth 100000
set_option maxHeartbeats 4000000
namespace FS
open PySem PySem.Spec PyProof.Rows L2
section
variable {P : Program} {w : World} {K : PySem.W.Frag} {mg : Str → Option Value} {base : Heap}
abbrev Ncheck_optional_word : List Str := ["value"]
theorem sccheck_optional_word : FnScope Ncheck_optional_word ["value"] (defScope scheck_optional_word) := ⟨rfl, rfl, rfl, by decide +kernel, rfl, by decide +kernel, by decide +kernel⟩
theorem ok_check_optional_word {f : Addr} {fd : FuncData} (F : Fun K "check_optional_word" "check_optional_word" scheck_optional_word f fd) (T : Nm K mg) (Ccheck_word : Cal P w K mg base 2 "check_word" ["value"] spWord) : FnOk P w K mg base CX0 3 f fd ["value"] (spOptW) := by
  have nd := sccheck_optional_word.nd
  refine F.ok sccheck_optional_word (fun vs H Q E h => ?_) (fun cdv A outer s H vs Q E hr h => ?_)
  · obtain ⟨v, rfl, ow, q⟩ := h
    rfl
  · obtain ⟨v, rfl, ow, q⟩ := h
    skip
    refine ⟨_, (pss_one (ps_if (pt_cmpR op_notN (pv 0) pe_non (nomark _))
  (pss_one (ps_expr (pe_own Ccheck_word (hr.mono (by decide)) (by rfl) (pa_cons (pv 0) pa_nil))))
  pss_nil)), ?_⟩

    rcases ow with rfl | ⟨z, rfl, wz⟩
    · exact ⟨_, rfl, rfl, _, rfl, iteF (q _ (.refl H))⟩
    · exact ⟨_, rfl, rfl, _, rfl, iteT ⟨_, rfl, z, rfl, wz, fun H1 s1 => q _ s1⟩⟩
end
end FS
set_option Elab.async false
set_option linter.all false
set_option maxRecDepth 100000
set_option maxHeartbeats 4000000
namespace FS
open PySem PySem.Spec PyProof.Rows L2
section
variable {P : Program} {w : World} {K : PySem.W.Frag} {mg : Str → Option Value} {base : Heap}
abbrev NbelowT : List Str := ["values", "limit", "value"]
theorem scbelowT : FnScope NbelowT ["values", "limit"] (defScope sare_integers_below) := ⟨rfl, rfl, rfl, by decide +kernel, rfl, by decide +kernel, by decide +kernel⟩
theorem ok_belowT {f : Addr} {fd : FuncData} (F : Fun K "are_integers_below" "are_integers_below" sare_integers_below f fd) (T : Nm K mg) : FnOk P w K mg base CX0 1 f fd ["values", "limit"] (spBelowT K) := by
  have nd := scbelowT.nd
  refine F.ok scbelowT (fun vs H Q E h => ?_) (fun cdv A outer s H vs Q E hr h => ?_)
  · obtain ⟨D, p, xs, ds, n, rfl, sq, at0, few, q⟩ := h
    rfl
  · obtain ⟨D, p, xs, ds, n, rfl, sq, at0, few, q⟩ := h
    skip
    refine ⟨_, (pss_one (ps_ret (pe_callB (cr_all rfl) (by rfl) T.b_all (by decide +kernel) (pa_cons (pe_lc (own := [("value", 2)]) (g := gName 2) (tt := tYes) rfl nd (pi_tup (pv 0)) (blkOk_by (own := [("value", 2)]) (N := NbelowT) (sc := defScope sare_integers_below) (by decide +kernel)) (fun _ _ _ _ _ => (pg_name (i := 2) nd rfl (Or.inl rfl))) (fun _ _ _ _ _ => pts_nil) (fun _ _ _ _ _ => (pe_and (pe_callB (call_isiK (K := K) rfl) (by rfl) T.b_isinstance (by decide +kernel) (pa_cons (pv 2) (pa_cons (pe_bltn (v := .ty "int") (by rfl) T.b_int (by decide +kernel) rfl) pa_nil))) (pe_and (pe_not (pe_callB (call_isiK (K := K) rfl) (by rfl) T.b_isinstance (by decide +kernel) (pa_cons (pv 2) (pa_cons (pe_bltn (v := .ty "bool") (by rfl) T.b_bool (by decide +kernel) rfl) pa_nil)))) (pe_one (pe_chain op_le op_lt pe_int (pv 2) (pv 1))))))) pa_nil)))), ?_⟩

    have sl := at0.len
    have z1 : (xs.zip ds).map (·.1) = xs := by rw [List.map_fst_zip]; omega
    have z2 : (xs.zip ds).map (·.2) = ds := by rw [List.map_snd_zip]; omega
    refine ⟨_, rfl, p, rfl, ⟨_, sq⟩, fun L nL => ?_⟩
    refine SQ.lcT (xs := xs) (xs.zip ds) (·.1) (fun _ => true) (fun m y _ => y = .bl (relB n m.2)) z1.symm (SQ.Rg.same nL) (fun H' s => Same.sqT s sq) (fun _ _ _ _ _ _ h => h) (fun _ _ _ _ _ _ h => h) (by rw [List.length_zip]; omega) (fun m H1 Ok No hm s1 _ ok _ => ?_) (fun H1 ys s1 e1 al => ?_)
    · have am := (at0.same s1).zipm m hm
      obtain ⟨x, d⟩ := m
      replace am : At K H1 D x d := am
      replace ok : ∀ y H4, Same H1 H4 → y = V.bl (relB n d) → Ok y H4 := ok rfl
      obtain ⟨t1, ty1, k1⟩ := am.isInt
      obtain ⟨t2, ty2, k2⟩ := am.isBool
      have no : d.isI = false → relB n d = false := fun e => by
        cases d <;> first | rfl | cases e
      by_cases hi : d.isI = true
      · rw [hi] at k1
        refine ⟨rfl, _, rfl, _, _, _, _, true, rfl, .ty "int", ty1, k1, true, rfl, ?_⟩
        cases am with
        | bl b =>
          refine ⟨_, rfl, _, _, _, _, true, rfl, .ty "bool", ty2, k2, true, rfl, false, rfl, ?_⟩
          exact ok _ _ (.refl _) rfl
        | int i =>
          refine ⟨_, rfl, _, _, _, _, false, rfl, .ty "bool", ty2, k2, false, rfl, true, rfl, iteT ?_⟩
          have eb := relB_case (N := n) (.int i)
          replace eb : relB n (.int i) = (decide (0 ≤ i) && decide (i < (n : Int))) := eb
          refine ⟨_, rfl, _, _, rfl, rfl, _, rfl, ite2 (fun e1 => ?_) (fun e1 => ?_)⟩
          · refine ⟨_, rfl, _, _, rfl, rfl, ?_⟩
            refine ok _ _ (.refl _) ?_
            rw [eb, e1, Bool.true_and]
          · refine ok _ _ (.refl _) ?_
            rw [eb, Bool.not_eq_true _ |>.mp e1, Bool.false_and]
        | _ => cases hi
      · have hi := Bool.not_eq_true _ |>.mp hi
        rw [hi] at k1
        refine ⟨rfl, _, rfl, _, _, _, _, false, rfl, .ty "int", ty1, k1, false, rfl, ?_⟩
        exact ok _ _ (.refl _) (by rw [no hi])
    · have e2 := (al.mono (Ψ := fun (m : V × Dat) y => y = V.bl (relB n m.2)) fun _ _ h => h).map
      rw [List.filter_eq_self.mpr (fun _ _ => rfl)] at e2
      refine ⟨L, ds.map (relB n), rfl, .inl (.inl ?_), ?_⟩
      · rw [e1, e2]
        conv => rhs; rw [← z2]
        rw [List.map_map, List.map_map]
        rfl
      · have z : (ds.map (relB n)).all id = ds.all (relB n) := by
          rw [List.all_map]
          rfl
        rw [z]
        exact q H1 s1
end
end FS
set_option Elab.async false
set_option linter.all false
set_option maxRecDepth 100000
set_option maxHeartbeats 4000000
namespace FS
open PySem PySem.Spec PyProof.Rows L2
section
variable {P : Program} {w : World} {K : PySem.W.Frag} {mg : Str → Option Value} {base : Heap}
abbrev NbelowL : List Str := ["values", "limit", "value"]
theorem scbelowL : FnScope NbelowL ["values", "limit"] (defScope sare_integers_below) := ⟨rfl, rfl, rfl, by decide +kernel, rfl, by decide +kernel, by decide +kernel⟩
theorem ok_belowL {f : Addr} {fd : FuncData} (F : Fun K "are_integers_below" "are_integers_below" sare_integers_below f fd) (T : Nm K mg) : FnOk P w K mg base CX0 1 f fd ["values", "limit"] (spBelowL K) := by
  have nd := scbelowL.nd
  refine F.ok scbelowL (fun vs H Q E h => ?_) (fun cdv A outer s H vs Q E hr h => ?_)
  · obtain ⟨D, p, xs, ds, n, rfl, sq, at0, few, q⟩ := h
    rfl
  · obtain ⟨D, p, xs, ds, n, rfl, sq, at0, few, q⟩ := h
    skip
    refine ⟨_, (pss_one (ps_ret (pe_callB (cr_all rfl) (by rfl) T.b_all (by decide +kernel) (pa_cons (pe_lc (own := [("value", 2)]) (g := gName 2) (tt := tYes) rfl nd (pi_list (pv 0)) (blkOk_by (own := [("value", 2)]) (N := NbelowL) (sc := defScope sare_integers_below) (by decide +kernel)) (fun _ _ _ _ _ => (pg_name (i := 2) nd rfl (Or.inl rfl))) (fun _ _ _ _ _ => pts_nil) (fun _ _ _ _ _ => (pe_and (pe_callB (call_isiK (K := K) rfl) (by rfl) T.b_isinstance (by decide +kernel) (pa_cons (pv 2) (pa_cons (pe_bltn (v := .ty "int") (by rfl) T.b_int (by decide +kernel) rfl) pa_nil))) (pe_and (pe_not (pe_callB (call_isiK (K := K) rfl) (by rfl) T.b_isinstance (by decide +kernel) (pa_cons (pv 2) (pa_cons (pe_bltn (v := .ty "bool") (by rfl) T.b_bool (by decide +kernel) rfl) pa_nil)))) (pe_one (pe_chain op_le op_lt pe_int (pv 2) (pv 1))))))) pa_nil)))), ?_⟩

    have sl := at0.len
    have z1 : (xs.zip ds).map (·.1) = xs := by rw [List.map_fst_zip]; omega
    have z2 : (xs.zip ds).map (·.2) = ds := by rw [List.map_snd_zip]; omega
    refine ⟨_, rfl, p, rfl, ⟨_, sq⟩, fun L nL => ?_⟩
    refine SQ.lcL (xs := xs) (xs.zip ds) (·.1) (fun _ => true) (fun m y _ => y = .bl (relB n m.2)) z1.symm (SQ.Rg.same nL) (fun H' s => Same.seq s sq) (fun _ _ _ _ _ _ h => h) (fun _ _ _ _ _ _ h => h) (by rw [List.length_zip]; omega) (fun m H1 Ok No hm s1 _ ok _ => ?_) (fun H1 ys s1 e1 al => ?_)
    · have am := (at0.same s1).zipm m hm
      obtain ⟨x, d⟩ := m
      replace am : At K H1 D x d := am
      replace ok : ∀ y H4, Same H1 H4 → y = V.bl (relB n d) → Ok y H4 := ok rfl
      obtain ⟨t1, ty1, k1⟩ := am.isInt
      obtain ⟨t2, ty2, k2⟩ := am.isBool
      have no : d.isI = false → relB n d = false := fun e => by
        cases d <;> first | rfl | cases e
      by_cases hi : d.isI = true
      · rw [hi] at k1
        refine ⟨rfl, _, rfl, _, _, _, _, true, rfl, .ty "int", ty1, k1, true, rfl, ?_⟩
        cases am with
        | bl b =>
          refine ⟨_, rfl, _, _, _, _, true, rfl, .ty "bool", ty2, k2, true, rfl, false, rfl, ?_⟩
          exact ok _ _ (.refl _) rfl
        | int i =>
          refine ⟨_, rfl, _, _, _, _, false, rfl, .ty "bool", ty2, k2, false, rfl, true, rfl, iteT ?_⟩
          have eb := relB_case (N := n) (.int i)
          replace eb : relB n (.int i) = (decide (0 ≤ i) && decide (i < (n : Int))) := eb
          refine ⟨_, rfl, _, _, rfl, rfl, _, rfl, ite2 (fun e1 => ?_) (fun e1 => ?_)⟩
          · refine ⟨_, rfl, _, _, rfl, rfl, ?_⟩
            refine ok _ _ (.refl _) ?_
            rw [eb, e1, Bool.true_and]
          · refine ok _ _ (.refl _) ?_
            rw [eb, Bool.not_eq_true _ |>.mp e1, Bool.false_and]
        | _ => cases hi
      · have hi := Bool.not_eq_true _ |>.mp hi
        rw [hi] at k1
        refine ⟨rfl, _, rfl, _, _, _, _, false, rfl, .ty "int", ty1, k1, false, rfl, ?_⟩
        exact ok _ _ (.refl _) (by rw [no hi])
    · have e2 := (al.mono (Ψ := fun (m : V × Dat) y => y = V.bl (relB n m.2)) fun _ _ h => h).map
      rw [List.filter_eq_self.mpr (fun _ _ => rfl)] at e2
      refine ⟨L, ds.map (relB n), rfl, .inl (.inl ?_), ?_⟩
      · rw [e1, e2]
        conv => rhs; rw [← z2]
        rw [List.map_map, List.map_map]
        rfl
      · have z : (ds.map (relB n)).all id = ds.all (relB n) := by
          rw [List.all_map]
          rfl
        rw [z]
        exact q H1 s1
end
end FS
set_option Elab.async false
set_option linter.all false
set_option maxRecDepth 100000
set_option maxHeartbeats 4000000
namespace FS
open PySem PySem.Spec PyProof.Rows L2
theorem or_below {P : Program} {w : World} {K : PySem.W.Frag} {mg : Str → Option Value} {base : Heap} {k : Nat} {f : Addr} {fd : FuncData} {ps : List Str} (F : FnOk P w K mg base CX0 k f fd ps (spBelowT K)) (G : FnOk P w K mg base CX0 k f fd ps (spBelowL K)) : FnOk P w K mg base CX0 k f fd ps (spBelowA K) := by
  have alt : ∀ vs H Q E, spBelowA K vs H Q E → spBelowT K vs H Q E ∨ spBelowL K vs H Q E := fun vs H Q E h => by
    obtain ⟨D, p, xs, ds, n, rfl, sq, r⟩ := h
    rcases sq with sq | e
    · exact .inl ⟨D, p, xs, ds, n, rfl, sq, r⟩
    · exact .inr ⟨D, p, xs, ds, n, rfl, .inl (.inl e), r⟩
  exact ⟨fun vs H Q E h => (alt _ _ _ _ h).elim (F.len vs H Q E) (G.len vs H Q E), fun A outer s H args us vs Q E hr he hb hv h => (alt _ _ _ _ h).elim (F.run A outer s H args us vs Q E hr he hb hv) (G.run A outer s H args us vs Q E hr he hb hv)⟩
theorem ok_belowA {P : Program} {w : World} {K : PySem.W.Frag} {mg : Str → Option Value} {base : Heap} {f : Addr} {fd : FuncData} (F : Fun K "are_integers_below" "are_integers_below" sare_integers_below f fd) (T : Nm K mg) : FnOk P w K mg base CX0 1 f fd ["values", "limit"] (spBelowA K) := or_below (ok_belowT F T) (ok_belowL F T)
end FS
set_option Elab.async false
set_option linter.all false
set_option maxRecDepth 100000
set_option maxHeartbeats 4000000
namespace FS
open PySem PySem.Spec PyProof.Rows L2
section
variable {P : Program} {w : World} {K : PySem.W.Frag} {mg : Str → Option Value} {base : Heap}
abbrev NSpacesize : List Str := ["self"]
theorem scSpacesize : FnScope NSpacesize ["self"] (defScope sSpacesize) := ⟨rfl, rfl, rfl, by decide +kernel, rfl, by decide +kernel, by decide +kernel⟩
theorem ok_Spacesize {f : Addr} {fd : FuncData} (F : Fun K "size" "Space.size" sSpacesize f fd) (T : Nm K mg) {C : Addr} (PC : SQ.SpC K mg C) : FnOk P w K mg base CX0 1 f fd ["self"] (spGet K C "_size") := by
  have nd := scSpacesize.nd
  refine F.ok scSpacesize (fun vs H Q E h => ?_) (fun cdv A outer s H vs Q E hr h => ?_)
  · obtain ⟨a, dx, fs, v, rfl, ha, lk, q⟩ := h
    rfl
  · obtain ⟨a, dx, fs, v, rfl, ha, lk, q⟩ := h
    skip
    refine ⟨_, (pss_one (ps_ret (pe_fld (pv 0) rfl))), ?_⟩

    exact ⟨_, rfl, a, C, dx, fs, v, rfl, ha, PC.cl, PC.a4, lk, q⟩
end
end FS
set_option Elab.async false
set_option linter.all false
set_option maxRecDepth 100000
set_option maxHeartbeats 4000000
namespace FS
open PySem PySem.Spec PyProof.Rows L2
section
variable {P : Program} {w : World} {K : PySem.W.Frag} {mg : Str → Option Value} {base : Heap}
abbrev NSpaceis_table : List Str := ["self", "value"]
theorem scSpaceis_table : FnScope NSpaceis_table ["self", "value"] (defScope sSpaceis_table) := ⟨rfl, rfl, rfl, by decide +kernel, rfl, by decide +kernel, by decide +kernel⟩
theorem ok_Spaceis_table {f : Addr} {fd : FuncData} (F : Fun K "is_table" "Space.is_table" sSpaceis_table f fd) (T : Nm K mg) {C : Addr} (PC : SQ.SpC K mg C) (Care_integers_below : Cal P w K mg base 1 "are_integers_below" ["values", "limit"] (spBelowA K)) : FnOk P w K mg base CX0 2 f fd ["self", "value"] (spIsTblA C K) := by
  have nd := scSpaceis_table.nd
  refine F.ok scSpaceis_table (fun vs H Q E h => ?_) (fun cdv A outer s H vs Q E hr h => ?_)
  · obtain ⟨D, p, m, b, v, d, rfl, sp, at0, dw, q⟩ := h
    rfl
  · obtain ⟨D, p, m, b, v, d, rfl, sp, at0, dw, q⟩ := h
    skip
    refine ⟨_, (pss_one (ps_ret (pe_and (pe_callB call_isi (by rfl) T.b_isinstance (by decide +kernel) (pa_cons (pv 1) (pa_cons (pe_bltn (v := .ty "tuple") (by rfl) T.b_tuple (by decide +kernel) rfl) pa_nil))) (pe_and (pe_cmpR op_eq (pe_callB call_len (by rfl) T.b_len PySem.boot_len (pa_cons (pv 1) pa_nil)) (pe_fld (pv 0) rfl) (nomark _)) (pe_one (pe_own Care_integers_below (hr.mono (by decide)) (by rfl) (pa_cons (pv 1) (pa_cons (pe_fld (pv 0) rfl) pa_nil)))))))), ?_⟩

    obtain ⟨mm, dx, e⟩ := sp
    obtain ⟨t, ty, kt⟩ := at0.isTup
    have tq : ∀ {b' : Bool}, tblB (szN m b) d = b' → ∀ H', Same H H' → Q (.bl b') H' := fun h => by
      subst h
      exact q
    cases at0 with
    | @tup t1 xs ds s r =>
      obtain ⟨dl, -⟩ := wide_tup dw
      have rl := r.len
      have q : ∀ H', Same H H' → Q (.bl (decide (ds.length = 2 ^ (m * SQ.en m b)) && ds.all (relB (2 ^ (m * SQ.en m b))))) H' := q
      refine ⟨_, rfl, _, _, _, _, true, rfl, .ty "tuple", ty, kt, true, rfl, ?_⟩
      refine ⟨_, rfl, _, _, rfl, .inr ⟨_, s, rfl⟩, _, rfl, p, C, dx, _, _, rfl, e, PC.cl, PC.a4, SQ.lk4, rfl, _, rfl, ?_⟩
      rw [SQ.int_dec, rl]
      by_cases hl : ds.length = 2 ^ (m * SQ.en m b)
      · rw [decide_eq_true hl]
        refine iteT ?_
        refine ⟨_, rfl, _, rfl, p, C, dx, _, _, rfl, e, PC.cl, PC.a4, SQ.lk4, D, t1, xs, ds, 2 ^ (m * SQ.en m b), rfl, .inl s, r, by omega, fun H1 s1 => ?_⟩
        have := q H1 s1
        rw [decide_eq_true hl, Bool.true_and] at this
        exact this
      · rw [decide_eq_false hl]
        have := q H (.refl H)
        rw [decide_eq_false hl, Bool.false_and] at this
        exact this
    | _ => exact ⟨_, rfl, _, _, _, _, false, rfl, .ty "tuple", ty, kt, false, rfl, tq rfl _ (.refl H)⟩
end
end FS
set_option Elab.async false
set_option linter.all false
set_option maxRecDepth 100000
set_option maxHeartbeats 4000000
namespace FS
open PySem PySem.Spec PyProof.Rows L2
section
variable {P : Program} {w : World} {K : PySem.W.Frag} {mg : Str → Option Value} {base : Heap}
abbrev Nspace_of : List Str := ["program", "word"]
theorem scspace_of : FnScope Nspace_of ["program", "word"] (defScope sspace_of) := ⟨rfl, rfl, rfl, by decide +kernel, rfl, by decide +kernel, by decide +kernel⟩
theorem ok_space_of {f : Addr} {fd : FuncData} (F : Fun K "space_of" "space_of" sspace_of f fd) (T : Nm K mg) {CP C CS : Addr} (PC : PgC K mg CP) (G : SpN P w K mg base CS) (Rmodes : PrP P w K mg base CP "modes" "_modes") : FnOk P w K mg base CX0 5 f fd ["program", "word"] (spSpaceOf K CP C CS) := by
  have nd := scspace_of.nd
  refine F.ok scspace_of (fun vs H Q E h => ?_) (fun cdv A outer s H vs Q E hr h => ?_)
  · obtain ⟨a, m, us, xs, w', rfl, pg, ow, q⟩ := h
    rfl
  · obtain ⟨a, m, us, xs, w', rfl, pg, ow, q⟩ := h
    skip
    refine ⟨_, (pss_one (ps_ret (pe_mkWN G (hr.mono (by decide)) (by rfl) (pa_cons (pe_pr Rmodes PC.cl (hr.mono (by decide)) (pv 0) rfl) pa_nil) (pk_cons (pe_cmpR op_notN (pv 1) pe_non (nomark _)) pk_nil)))), ?_⟩

    obtain ⟨dx0, pv0, dv0, nv0, wv0, kvs0, ns0, ws0, h0, sq, ps, l8, -, -, -, -, -, -, m1, m3⟩ := pg
    have ew : (!decide (w' = V.non)) = wdB w' := by
      unfold wdB
      exact (decide_not ..).symm
    refine ⟨_, rfl, a, dx0, _, rfl, h0, a, dx0, _, _, rfl, h0, gl1, _, rfl, rfl, ?_⟩
    refine ⟨rfl, rfl, fun x dx nx nd' ne => ?_⟩
    refine ⟨x, dx, m, wdB w', by rw [← ew]; rfl, upd_same, by omega, by omega, fun H3 kp e3 => ⟨rfl, ?_⟩⟩
    exact q _ _ (Same.made nx nd' fun b o e n => kp b o n e) ⟨⟨by omega, by omega⟩, _, e3⟩
end
end FS
set_option Elab.async false
set_option linter.all false
set_option maxRecDepth 100000
set_option maxHeartbeats 4000000
namespace FS
open PySem PySem.Spec PyProof.Rows L2
section
variable {P : Program} {w : World} {K : PySem.W.Frag} {mg : Str → Option Value} {base : Heap}
abbrev Nkinds_in_b : List Str := ["program", "procedure"]
theorem sckinds_in_b : FnScope Nkinds_in_b ["program"] (defScope skinds_in_b) := ⟨rfl, rfl, rfl, by decide +kernel, rfl, by decide +kernel, by decide +kernel⟩
theorem ok_kinds_in_b {f : Addr} {fd : FuncData} (F : Fun K "kinds_in" "kinds_in" skinds_in_b f fd) (T : Nm K mg) {CP C : Addr} (PC : PgC K mg CP) (G : PrG P w K mg base C) (Rprocs : PrP P w K mg base CP "procedures" "_procedures") (Rkinds : PrP P w K mg base C "kinds" "_kinds") (Rnamed : PrP P w K mg base C "named" "_named") : FnOk P w K mg base CX0 3 f fd ["program"] (spKindsR K CP C) := by
  have nd := sckinds_in_b.nd
  refine F.ok sckinds_in_b (fun vs H Q E h => ?_) (fun cdv A outer s H vs Q E hr h => ?_)
  · obtain ⟨a, m, us, xs, rfl, pg, ndn, q⟩ := h
    rfl
  · obtain ⟨a, m, us, xs, rfl, pg, ndn, q⟩ := h
    skip
    refine ⟨_, (pss_one (ps_ret (pe_dc (own := [("procedure", 1)]) (g := gName 1) (tt := tYes) rfl nd (pi_tup (pe_pr Rprocs PC.cl (hr.mono (by decide)) (pv 0) rfl)) (blkOk_by (own := [("procedure", 1)]) (N := Nkinds_in_b) (sc := defScope skinds_in_b) (by decide +kernel)) (fun _ _ _ _ _ => (pg_name (i := 1) nd rfl (Or.inl rfl))) (fun _ _ _ _ _ => pts_nil) (fun _ _ _ _ _ => (pe_prK Rnamed rfl rfl rfl rfl rfl G.c.cl (hr.mono (by decide)) (pv 1) rfl)) (fun _ _ _ _ _ => (pe_prK Rkinds rfl rfl rfl rfl rfl G.c.cl (hr.mono (by decide)) (pv 1) rfl))))), ?_⟩

    obtain ⟨dx0, pv0, dv0, nv0, wv0, kvs0, ns0, ws0, h0, sq, ps, l8, -⟩ := pg
    have lx := ps.len
    refine ⟨_, rfl, a, dx0, _, rfl, h0, a, dx0, _, _, rfl, h0, gl2, pv0, rfl, ⟨xs, sq⟩, fun D nD => ?_⟩
    refine dc_tup (xs := xs) (fun i H' => Same H H' ∧ ∃ kvs, H' D = some (.dK kvs) ∧ NamesIn kvs (us.take i) ∧ (((us.take i).map (·.1)).Nodup → KV K H' kvs (us.take i))) ⟨same_upd nD, [], upd_same, .nil, fun _ => .nil⟩ (fun i H' hi h => Same.sqT h.1 sq) (fun i x H2 hx h => ?_) (fun H' h => ?_)
    · obtain ⟨sm, kvs, eD, ni, kv⟩ := h
      obtain ⟨a, u, rfl, hu, pa⟩ := (ps.same sm).get hx
      have li := (List.getElem?_eq_some_iff.mp hx).1
      obtain ⟨⟨dx, pv', bv, pb, ka, wa, ua, ys, ws, vs, h1, h2, h3, h4, h5, h6, -⟩, -⟩ := pa
      have lk := ni.le
      rw [List.length_take] at lk
      have tk : TK H2 (upd H2 D (.dK (putK kvs (Sum.inr u.1) (.ref ka)))) := TK.set eD rfl
      refine ⟨rfl, _, rfl, a, dx, _, rfl, h1, a, dx, _, _, rfl, h1, lk1, _, rfl, a, dx, _, rfl, h1, a, dx, _, _, rfl, h1, lk5, kvs, Sum.inr u.1, rfl, eD, small1000 (by omega), Same.set sm nD, _, upd_same, ?_⟩
      rw [take_more hu]
      refine ⟨ni.put, fun nn => ?_⟩
      rw [List.map_append] at nn
      obtain ⟨n1, -, n2⟩ := List.nodup_append.mp nn
      exact ((kv n1).put h6 (fun z => n2 _ z _ List.mem_cons_self rfl)).tk tk
    · obtain ⟨sm, kvs, eD, ni, kv⟩ := h
      rw [lx, List.take_length] at kv ni
      exact q H' D kvs sm eD (kv ndn)
end
end FS
set_option Elab.async false
set_option linter.all false
set_option maxRecDepth 100000
set_option maxHeartbeats 4000000
namespace FS
open PySem PySem.Spec PyProof.Rows L2
section
variable {P : Program} {w : World} {K : PySem.W.Frag} {mg : Str → Option Value} {base : Heap}
abbrev Nhas_context_form : List Str := ["kinds_by_name", "space", "value", "kinds", "meanings", "blocks", "tables", "meaning", "kind", "table"]
theorem schas_context_form : FnScope Nhas_context_form ["kinds_by_name", "space", "value"] (defScope shas_context_form) := ⟨rfl, rfl, rfl, by decide +kernel, rfl, by decide +kernel, by decide +kernel⟩
theorem ok_has_context_form {f : Addr} {fd : FuncData} (F : Fun K "has_context_form" "has_context_form" shas_context_form f fd) (T : Nm K mg) {CS : Addr} (PC : SQ.SpC K mg CS) (Rsize : PrP P w K mg base CS "size" "_size") (Mtbl : SQ.MCal P w K mg base CS 2 "is_table" ["self", "value"] (spIsTblA CS K)) (Care_integers_below : Cal P w K mg base 1 "are_integers_below" ["values", "limit"] (spBelowA K)) : FnOk P w K mg base CX0 3 f fd ["kinds_by_name", "space", "value"] (spFormC CS K) := by
  have nd := schas_context_form.nd
  refine F.ok schas_context_form (fun vs H Q E h => ?_) (fun cdv A outer s H vs Q E hr h => ?_)
  · obtain ⟨D, q0, p, kvs, us, m, b, v, d, rfl, eq, kv, ndn, sp, hv, dw, q⟩ := h
    rfl
  · obtain ⟨D, q0, p, kvs, us, m, b, v, d, rfl, eq, kv, ndn, sp, hv, dw, q⟩ := h
    skip
    refine ⟨_, (pss_cons (ps_if (PW.pt (pw_or (pt_not (pt_val (pe_callB call_isi (by rfl) T.b_isinstance (by decide +kernel) (pa_cons (pv 2) (pa_cons (pe_bltn (v := .ty "tuple") (by rfl) T.b_tuple (by decide +kernel) rfl) pa_nil))))) (pw_or (pt_cmpR op_ne (pe_callB call_len (by rfl) T.b_len PySem.boot_len (pa_cons (pv 2) pa_nil)) pe_int (nomark _)) (pw_or1 (pt_not (pt_val (pe_callB call_isi (by rfl) T.b_isinstance (by decide +kernel) (pa_cons (pe_ix ix_tup (pv 2) pe_int (fun _ _ => rfl)) (pa_cons (pe_bltn (v := .ty "str") (by rfl) T.b_str (by decide +kernel) rfl) pa_nil)))))))))
  (pss_one (ps_ret pe_bl))
  pss_nil)
  (pss_cons (ps_par (i := 3) (j := 4) (by rfl) nd rfl rfl (by decide) rfl rfl (pa_cons (pe_dget1 (u1 hr) (pv 0) (pe_ix ix_tup (pv 2) pe_int (fun _ _ => rfl)) ⟨rfl, by rfl, rfl, rfl⟩) (pa_cons (pe_ix ix_tup (pv 2) pe_int (fun _ _ => rfl)) pa_nil)) (by rfl))
  (pss_cons (ps_if (PW.pt (pw_or (pt_cmpR op_isN (pv 3) pe_non (nomark _)) (pw_or (pt_not (pt_val (pe_callB call_isi (by rfl) T.b_isinstance (by decide +kernel) (pa_cons (pv 4) (pa_cons (pe_bltn (v := .ty "tuple") (by rfl) T.b_tuple (by decide +kernel) rfl) pa_nil))))) (pw_or1 (pt_cmpR op_ne (pe_callB call_len (by rfl) T.b_len PySem.boot_len (pa_cons (pv 4) pa_nil)) (pe_callB call_len (by rfl) T.b_len PySem.boot_len (pa_cons (pv 3) pa_nil)) (nomark _))))))
  (pss_one (ps_ret pe_bl))
  pss_nil)
  (pss_cons (ps_if (pt_cmpR op_notIn_seq pe_str (pv 3) (by rfl))
  (pss_one (ps_ret (pe_own Care_integers_below (hr.mono (by decide)) (by rfl) (pa_cons (pv 4) (pa_cons (pe_pr Rsize PC.cl (hr.mono (by decide)) (pv 1) rfl) pa_nil)))))
  pss_nil)
  (pss_cons (ps_setLc (i := 5) (own := [("meaning", 7), ("kind", 8)]) (g := gTup K 2 (gCons (gName 7) (gCons (gName 8) gNil))) rfl nd rfl rfl (sw_true rfl rfl rfl (by decide +kernel)) (RZ.pi_zipA (by rfl) T.b_zip (pa_cons (pv 4) (pa_cons (pv 3) pa_nil))) (blkOk_by (own := [("meaning", 7), ("kind", 8)]) (N := Nhas_context_form) (sc := defScope shas_context_form) (by decide +kernel)) (fun _ _ _ _ _ => (pg_tup rfl (pgs_cons (pg_name (i := 7) nd rfl (Or.inl rfl)) (pgs_cons (pg_name (i := 8) nd rfl (Or.inl rfl)) pgs_nil)))) (fun _ _ _ _ _ => pts_one (pt_cmpR op_eq (pv 8) pe_str (nomark _))) (fun _ _ _ _ _ => (pv 7)))
  (pss_cons (ps_setLc (i := 6) (own := [("meaning", 7), ("kind", 8)]) (g := gTup K 2 (gCons (gName 7) (gCons (gName 8) gNil))) rfl nd rfl rfl (sw_true rfl rfl rfl (by decide +kernel)) (RZ.pi_zipA (by rfl) T.b_zip (pa_cons (pv 4) (pa_cons (pv 3) pa_nil))) (blkOk_by (own := [("meaning", 7), ("kind", 8)]) (N := Nhas_context_form) (sc := defScope shas_context_form) (by decide +kernel)) (fun _ _ _ _ _ => (pg_tup rfl (pgs_cons (pg_name (i := 7) nd rfl (Or.inl rfl)) (pgs_cons (pg_name (i := 8) nd rfl (Or.inl rfl)) pgs_nil)))) (fun _ _ _ _ _ => pts_one (pt_cmpR op_eq (pv 8) pe_str (nomark _))) (fun _ _ _ _ _ => (pv 7)))
  (pss_one (ps_ret (pe_and (pe_own Care_integers_below (hr.mono (by decide)) (by rfl) (pa_cons (pv 5) (pa_cons (pe_pr Rsize PC.cl (hr.mono (by decide)) (pv 1) rfl) pa_nil))) (pe_one (pe_callB (cr_all rfl) (by rfl) T.b_all (by decide +kernel) (pa_cons (pe_lc (own := [("table", 9)]) (g := gName 9) (tt := tYes) rfl nd (pi_list (pv 6)) (blkOk_by (own := [("table", 9)]) (N := Nhas_context_form) (sc := defScope shas_context_form) (by decide +kernel)) (fun _ _ _ _ _ => (pg_name (i := 9) nd rfl (Or.inl rfl))) (fun _ _ _ _ _ => pts_nil) (fun _ _ _ _ _ => (SQ.pe_ownM Mtbl PC.cl (hr.mono (by decide)) (pv 1) (pa_cons (pv 9) pa_nil)))) pa_nil)))))))))))), ?_⟩

    have sp' := sp
    obtain ⟨mm, dx, e⟩ := sp
    obtain ⟨t, ty, kt⟩ := hv.isTup
    have no : ctxB (ktOf us) (szN m b) d = false → ∀ H', Same H H' → Q (.bl false) H' := fun h => by
      rw [h] at q
      exact q
    cases hv with
    | @tup a xs ds s r =>
      have tl := wide_tup dw
      refine ⟨_, rfl, _, _, _, _, true, rfl, .ty "tuple", ty, kt, true, rfl, iteF ?_⟩
      refine ⟨_, rfl, _, _, rfl, .inr ⟨_, s, rfl⟩, rfl, _, rfl, ite2 (fun e2 => ?_) (fun e2 => ?_)⟩
      · have hl : xs.length ≠ 2 := vne_t (m := 2) e2
        rw [r.len] at hl
        exact no (ctxB_not fun z es h => by cases h; exact hl rfl) _ (.refl H)
      have hl : xs.length = 2 := vne_f (m := 2) e2
      rw [r.len] at hl
      obtain ⟨d1, d2, rfl⟩ : ∃ d1 d2, ds = [d1, d2] := by
        match ds, hl with
        | [d1, d2], _ => exact ⟨d1, d2, rfl⟩
      have wd2 := tl.2 d2 (by simp)
      cases r with
      | @cons x1 _ _ _ a1 r => cases r with
        | @cons x2 _ _ _ a2 r =>
        cases r
        obtain ⟨t1, ty1, k1⟩ := a1.isStr
        obtain ⟨t2, ty2, k2⟩ := a2.isTup
        cases a1 with
        | str z hz =>
          refine ⟨_, rfl, a, _, 0, _, rfl, rfl, s, FS.at0, _, _, _, _, true, rfl, .ty "str", ty1, k1, true, rfl, iteF ?_⟩
          obtain ⟨g, hg, dv⟩ := kv.look z
          refine ⟨_, rfl, q0, rfl, (.inl ⟨_, .inl eq⟩), _, rfl, a, _, 0, _, rfl, rfl, s, FS.at0, g, hg ▸ DGet.k (k := Sum.inr z) eq, _, rfl, a, _, 1, _, rfl, rfl, s, at1, ?_⟩
          refine ⟨_, _, rfl, ?_⟩
          have kl := ktOf_look us z
          unfold lookD at dv
          generalize g.getD .non = kvv at dv ⊢
          cases el : (tbOf us).lookup z with
          | none =>
            rw [el] at dv kl
            cases dv
            refine ⟨_, rfl, rfl, _, rfl, iteT ?_⟩
            refine no ?_ _ (.refl H)
            cases d2 with
            | tup es =>
              rw [ctxB_at, kl]
              rfl
            | _ => exact ctxB_not fun z es h => by cases h
          | some o =>
            rw [el] at dv kl
            replace dv : Dp K H kvv (kindD o) := dv
            replace kl : (ktOf us).lookup z = some (o.map (·.2)) := kl
            rw [kindD_eq] at dv
            generalize o.map (·.2) = ks at dv kl
            obtain ⟨ka, rfl, sk⟩ := kinds_open dv
            refine ⟨_, rfl, rfl, _, rfl, ite2 (fun e3 => nomatch of_decide_eq_true e3) (fun _ => ?_)⟩
            cases a2 with
            | @tup a' ms es s' r' =>
              have tl2 := wide_tup wd2
              have rl := r'.len
              refine ⟨_, rfl, _, _, _, _, true, rfl, .ty "tuple", ty2, k2, true, rfl, iteF ?_⟩
              have kdl : (kdV ks).length = ks.length := by rw [List.length_map, List.length_map]
              refine ⟨_, rfl, _, _, rfl, .inr ⟨_, s', rfl⟩, _, rfl, _, _, rfl, .inr ⟨_, sk, rfl⟩, rfl, _, rfl, ite2 (fun e3 => ?_) (fun e3 => ?_)⟩
              · have h3 := vne_t e3
                rw [List.length_map, List.length_map] at h3
                refine no ?_ _ (.refl H)
                rw [ctxB_at, kl]
                exact means_len ks es (by omega)
              have h3 := vne_f e3
              rw [List.length_map, List.length_map] at h3
              have q : ∀ H', Same H H' → Q (.bl (meansB (szN m b) ks es)) H' := by
                rw [ctxB_at, kl] at q
                exact q
              refine ⟨_, rfl, ka, _, rfl, .inr sk, rfl, flat_strs _, _, rfl, ?_⟩
              rw [inV_strs, wrap_any]
              refine ite2 (fun e4 => ?_) (fun e4 => ?_)
              · rw [means_plain ks es (by omega) (by rw [all_plain]; exact e4)] at q
                exact ⟨_, rfl, _, rfl, p, dx, _, rfl, e, p, dx, _, _, rfl, e, SQ.lk4, D, a', ms, es, szN m b, rfl, .inl s', r', by omega, q⟩
              rw [means_mixed ks es (by omega)] at q
              have q : ∀ H', Same H H' → Q (.bl ((ofKind false ks es).all (relB (szN m b)) && (ofKind true ks es).all (tblB (szN m b)))) H' := q
              refine ⟨_, rfl, _, rfl, a', ka, ms, kdV ks, rfl, .inr ⟨s', sk, fun L nL => ?_⟩⟩
              refine lc_kind false s' sk r' (by omega) (by omega) nL (fun T x c H2 Ok No eT yes no => ?_) (fun H2 ys s2 eL al => ?_)
              · refine ⟨T, _, rfl, .inl (.inl eT), rfl, _, _, rfl, _, _, rfl, rfl, rfl, ?_⟩
                refine ⟨_, rfl, rfl, _, rfl, ?_⟩
                rw [show V.str "block" = V.str (kd false) from rfl, kd_is]
                refine ite2 (fun e5 => ⟨_, rfl, yes (of_decide_eq_true e5) _ (.refl _)⟩) (fun e5 => no (fun z => e5 (decide_eq_true z)) _ (.refl _))
              have s2' := Same.sqT s2 s'
              have sk2 := Same.sqT s2 sk
              refine ⟨_, rfl, _, rfl, a', ka, ms, kdV ks, rfl, .inr ⟨s2', sk2, fun L2 nL2 => ?_⟩⟩
              refine lc_kind true s2' sk2 (r'.same s2) (by omega) (by omega) nL2 (fun T x c H2 Ok No eT yes no => ?_) (fun H3 zs s3 eL2 al2 => ?_)
              · refine ⟨T, _, rfl, .inl (.inl eT), rfl, _, _, rfl, _, _, rfl, rfl, rfl, ?_⟩
                refine ⟨_, rfl, rfl, _, rfl, ?_⟩
                rw [show V.str "wrap" = V.str (kd true) from rfl, kd_is]
                refine ite2 (fun e5 => ⟨_, rfl, yes (of_decide_eq_true e5) _ (.refl _)⟩) (fun e5 => no (fun z => e5 (decide_eq_true z)) _ (.refl _))
              have s23 := s2.trans s3
              have e9 := s23 _ _ e
              have lo1 := ofKind_len false ks es
              have lo2 := ofKind_len true ks es
              have al1 := al.len
              refine ⟨_, rfl, _, rfl, p, dx, _, rfl, e9, p, dx, _, _, rfl, e9, SQ.lk4, D, L, ys, _, szN m b, rfl, .inr (s3 _ _ eL), (al.same s23), by omega, fun H4 s4 => ?_⟩
              generalize hb1 : (ofKind false ks es).all (relB (szN m b)) = b1 at q ⊢
              cases b1 with
              | false =>
                refine ⟨_, rfl, ?_⟩
                exact q _ (s23.trans s4)
              | true =>
              refine ⟨_, rfl, ?_⟩
              have s24 := s23.trans s4
              have e10 := s4 _ _ e9
              have eL3 := s4 _ _ eL2
              have r2 := al2.same (s3.trans s4)
              have wk := ofKind_wide true ks es tl2.2
              generalize ofKind true ks es = es2 at q r2 lo2 wk al2
              have sl := r2.len
              have z1 : (zs.zip es2).map (·.1) = zs := by rw [List.map_fst_zip]; omega
              have z2 : (zs.zip es2).map (·.2) = es2 := by rw [List.map_snd_zip]; omega
              refine iteT ?_
              refine ⟨_, rfl, L2, rfl, ⟨_, .inl (.inl eL3)⟩, fun L3 nL3 => ?_⟩
              refine SQ.lcL (xs := zs) (zs.zip es2) (·.1) (fun _ => true) (fun (mm : V × Dat) y _ => y = .bl (tblB (szN m b) mm.2)) z1.symm (SQ.Rg.same nL3) (fun H' s => SQ.Same.seq s (.inl (.inl eL3))) (fun _ _ _ _ _ _ h => h) (fun _ _ _ _ _ _ h => h) (by rw [List.length_zip]; omega) (fun mm H5 Ok No hm s5 _ ok _ => ?_) (fun H5 ys5 s5 e5 al5 => ?_)
              · have am := (r2.same s5).zipm mm hm
                have dm : mm.2 ∈ es2 := by
                  rw [← z2]
                  exact List.mem_map_of_mem hm
                refine ⟨rfl, _, rfl, ?_⟩
                refine ⟨p, dx, _, rfl, s5 _ _ e10, SQ.noF, _, rfl, D, p, m, b, _, mm.2, rfl, ⟨sp'.1, _, s5 _ _ e10⟩, am, wk _ dm, fun H6 s6 => ?_⟩
                exact ok rfl _ _ s6 rfl
              · have e2 := (al5.mono (Ψ := fun (mm : V × Dat) y => y = V.bl (tblB (szN m b) mm.2)) fun _ _ h => h).map
                rw [List.filter_eq_self.mpr (fun _ _ => rfl)] at e2
                refine ⟨L3, es2.map (tblB (szN m b)), rfl, .inl (.inl ?_), ?_⟩
                · rw [e5, e2]
                  conv => rhs; rw [← z2]
                  rw [List.map_map, List.map_map]
                  rfl
                · have z : (es2.map (tblB (szN m b))).all id = es2.all (tblB (szN m b)) := by
                    rw [List.all_map]
                    rfl
                  rw [z]
                  exact q H5 (s24.trans s5)
            | _ => exact ⟨_, rfl, _, _, _, _, false, rfl, .ty "tuple", ty2, k2, false, rfl, iteT (no (ctxB_not fun z es h => by cases h) _ (.refl H))⟩
        | _ => exact ⟨_, rfl, a, _, 0, _, rfl, rfl, s, FS.at0, _, _, _, _, false, rfl, .ty "str", ty1, k1, false, rfl, iteT (no (ctxB_not fun z es h => by cases h) _ (.refl H))⟩
    | _ => exact ⟨_, rfl, _, _, _, _, false, rfl, .ty "tuple", ty, kt, false, rfl, iteT (no (ctxB_not fun z es h => by cases h) _ (.refl H))⟩
end
end FS
set_option Elab.async false
set_option linter.all false
set_option maxRecDepth 100000
set_option maxHeartbeats 4000000
namespace FS
open PySem PySem.Spec PyProof.Rows L2
section
variable {P : Program} {w : World} {K : PySem.W.Frag} {mg : Str → Option Value} {base : Heap}
abbrev Nis_context : List Str := ["program", "value", "word"]
theorem scis_context : FnScope Nis_context ["program", "value", "word"] (defScope sis_context) := ⟨rfl, rfl, rfl, by decide +kernel, rfl, by decide +kernel, by decide +kernel⟩
theorem ok_is_context {f : Addr} {fd : FuncData} (F : FunD K "is_context" "is_context" (defArgs sis_context) (defBody sis_context) (defScope sis_context) [] [("word", .non)] f fd) (T : Nm K mg) {CP C CS : Addr} (Ccheck_program : Cal P w K mg base 1 "check_program" ["value"] (spChkX K CP C)) (Ccheck_optional_word : Cal P w K mg base 3 "check_optional_word" ["value"] spOptW) (Ckinds_in_reckoning : Cal P w K mg base 3 "kinds_in_reckoning" ["program"] (spKindsR K CP C)) (Cspace_of : Cal P w K mg base 5 "space_of" ["program", "word"] (spSpaceOf K CP C CS)) (Chas_context_form : Cal P w K mg base 3 "has_context_form" ["kinds_by_name", "space", "value"] (spFormC CS K)) : FnOk P w K mg base CX0 6 f fd ["program", "value", "word"] (spCtx K CP C) := by
  have nd := scis_context.nd
  refine F.okN scis_context (fun vs H Q E h => ?_) (fun cdv A outer s H vs Q E hr h => ?_)
  · obtain ⟨D, a, m, us, xs, v, w', d, rfl, pg, ndn, ow, hv, dw, q⟩ := h
    rfl
  · obtain ⟨D, a, m, us, xs, v, w', d, rfl, pg, ndn, ow, hv, dw, q⟩ := h
    skip
    refine ⟨_, (pss_cons (ps_expr (pe_own Ccheck_program (hr.mono (by decide)) (by rfl) (pa_cons (pv 0) pa_nil)))
  (pss_cons (ps_expr (pe_own Ccheck_optional_word (hr.mono (by decide)) (by rfl) (pa_cons (pv 2) pa_nil)))
  (pss_one (ps_ret (pe_own Chas_context_form (hr.mono (by decide)) (by rfl) (pa_cons (pe_own Ckinds_in_reckoning (hr.mono (by decide)) (by rfl) (pa_cons (pv 0) pa_nil)) (pa_cons (pe_own Cspace_of (hr.mono (by decide)) (by rfl) (pa_cons (pv 0) (pa_cons (pv 2) pa_nil))) (pa_cons (pv 1) pa_nil)))))))), ?_⟩

    refine ⟨_, rfl, a, _, us, xs, rfl, pg, ?_⟩
    refine ⟨_, rfl, _, rfl, ow, fun H1 s1 => ?_⟩
    have pg1 := pg.same s1
    refine ⟨_, rfl, a, _, us, xs, rfl, pg1, ndn, fun H2 q2 kvs s2 ek kv => ?_⟩
    have pg2 := pg1.same s2
    refine ⟨_, rfl, _, rfl, a, m, us, xs, _, rfl, pg2, ow, fun H3 p3 s3 sp => ?_⟩
    have s13 := s1.trans (s2.trans s3)
    exact ⟨_, rfl, D, q2, p3, kvs, us, m, wdB w', v, d, rfl, s3 _ _ ek, kv.tk (.of s3), ndn, sp, hv.same s13, dw, fun H4 s4 => q _ (s13.trans s4)⟩
end
end FS
set_option Elab.async false
set_option linter.all false
set_option maxRecDepth 100000
set_option maxHeartbeats 4000000
/-! what calls of defs with defaults bind -/
namespace FS
open PySem PySem.Spec PyProof.Rows L2
theorem wild_binds {K : PySem.W.Frag} {f : Addr} {fd : FuncData} (F : FunD K "_law_wild" "_law_wild" (defArgs s_law_wild) (defBody s_law_wild) (defScope s_law_wild) [V.int 1] [] f fd) : ∃ ds, Vals [V.int 1] ds ∧ Binds K fd ["_law_sack_here", "_law_least"] ds :=
  F.binds1 (ps := ["_law_sack_here", "_law_least"]) 1 0 (List.cons_ne_nil _ _) rfl fun T kV doc pm an cdv ct us its h1 h2 => match us, h1, its, h2 with
    | [_], _, [_], _ => ⟨_, rfl, rfl⟩
theorem ctx_binds {K : PySem.W.Frag} {f : Addr} {fd : FuncData} (F : FunD K "is_context" "is_context" (defArgs sis_context) (defBody sis_context) (defScope sis_context) [] [("word", .non)] f fd) : KBn K fd ["program", "value", "word"] 2 ["word"] (fun us ws => us ++ ws) (fun vs zs => vs ++ zs) := by
  obtain ⟨oc, od, dV, kV, doc, pm, an, cdv, ct, osl, rfl, lk, hcd, hD, hK⟩ := F.ex
  rcases hD with ⟨_, rfl⟩ | ⟨e, _⟩
  · exact ⟨fun s us ws X l1 l2 => match us, l1, ws, l2 with
      | [_, _], _, [_], _ => .of_eq rfl, fun r1 r2 => r1.append r2⟩
  · exact absurd rfl e
theorem exm_is {K : PySem.W.Frag} {R S : Addr} {r : Bool} (b : PySem.W.subIn K (.ref S) (.type "BaseException") = some true) (i : PySem.W.isClsIn K S = true) (t : PySem.W.typeIn K (.ref S) = some (.type "type")) (s : PySem.W.subIn K (.ref R) (.ref S) = some r) : PySem.W.exmOne K (.ref R) (.ref S) = some r := by
  unfold PySem.W.exmOne
  rw [if_pos (by rw [b]; rfl)]
  have h2 : ((PySem.W.clsIn K S).isSome && PySem.W.typeIn K (.ref S) == some (.type "type")) = true := by
    rw [show (PySem.W.clsIn K S).isSome = true from i, t] <;> rfl
  show (if ((PySem.W.clsIn K S).isSome && PySem.W.typeIn K (.ref S) == some (.type "type")) = true then PySem.W.subIn K (.ref R) (.ref S) else none) = some r
  rw [if_pos h2]
  exact s
end FS
set_option Elab.async false
set_option linter.all false
set_option maxRecDepth 100000
set_option maxHeartbeats 4000000
/-! the framed programs: lemmas -/
namespace FS
open PySem PySem.Spec PyProof.Rows L2
def RowV (K : PySem.W.Frag) (H : Hp) (tb : Tbl) (r : Addr) (u : RowU) : Prop := ∃ ov bv, SqT K H r [.str u.1, ov, bv] ∧ Dp K H ov (parsD u.2.1) ∧ GotL K H 2 tb u.2.1 6 40 false bv u.2.2
section
variable {K : PySem.W.Frag} {H H' : Hp} {tb : Tbl} {r : Addr} {u : RowU}
theorem RowV.tk (x : RowV K H tb r u) (e : TK H H') : RowV K H' tb r u := by
  obtain ⟨ov, bv, h1, h2, h3⟩ := x
  exact ⟨ov, bv, e.sqT h1, Dp.tk e (pars_noL _) h2, h3.tk e⟩
theorem RowV.row {rs : List Addr} {us : List RowU} {nm : Str} {own : List (Str × Bool)} {t : Tm} (x : RowV K H tb r (nm, own, t)) (po : ParOk own) (wd : wordB nm = true) (k : RowsT K H 2 tb 6 40 rs us) : RowsT K H 2 tb 6 40 (r :: rs) ((nm, own, t) :: us) := by
  obtain ⟨ov, bv, h1, h2, h3⟩ := x
  exact .cons h1 h2 h3 po wd k
theorem RowV.good (x : RowV K H tb r u) : GF 2 tb u.2.1 u.2.2 := by
  obtain ⟨ov, bv, h1, h2, h3⟩ := x
  exact h3.good
end
def xO : List (Str × Bool) := [("x", false)]
def bO : List (Str × Bool) := [("b", false)]
def wO : List (Str × Bool) := [("w", true)]
def wbO : List (Str × Bool) := [("w", true), ("b", false)]
theorem nilOk : ParOk [] := ⟨Nat.zero_le _, (fun _ h => nomatch h), .nil⟩
theorem xO_ok : ParOk xO := parOk_of (by decide +kernel)
theorem bO_ok : ParOk bO := parOk_of (by decide +kernel)
theorem wO_ok : ParOk wO := parOk_of (by decide +kernel)
theorem wbO_ok : ParOk wbO := parOk_of (by decide +kernel)
def tbU (ns : List Str) (os : List (List (Str × Bool))) : Tbl := ns.zip os
section
variable {K : PySem.W.Frag} {H : Hp} {m : Int} {tb : Tbl} {own : List (Str × Bool)} {d c : Nat} {p : Addr} {v1 v2 v3 : V} {t1 t2 t3 : Tm}
theorem gl_two (b : Bool) (e : SqT K H p [V.str (if b then "or" else "seq"), v1, v2]) (g1 : GotL K H m tb own d c false v1 t1) (g2 : GotL K H m tb own d c false v2 t2) : ∃ t, GotL K H m tb own (d + 1) (1 + 2 * c) false (.ref p) t :=
  gl_seq (us := [t1, t2]) b (fun _ => by show 0 < 2; decide) e (.cons g1.dp (.cons g2.dp .nil)) (fun u hu => by
    simp only [List.mem_cons, List.not_mem_nil, or_false] at hu
    rcases hu with rfl | rfl
    · exact ⟨g1.good, g1.kind, g1.deep, g1.few⟩
    · exact ⟨g2.good, g2.kind, g2.deep, g2.few⟩) 2 (Nat.le_refl _)
theorem gl_three (b : Bool) (e : SqT K H p [V.str (if b then "or" else "seq"), v1, v2, v3]) (g1 : GotL K H m tb own d c false v1 t1) (g2 : GotL K H m tb own d c false v2 t2) (g3 : GotL K H m tb own d c false v3 t3) : ∃ t, GotL K H m tb own (d + 1) (1 + 3 * c) false (.ref p) t :=
  gl_seq (us := [t1, t2, t3]) b (fun _ => by show 0 < 3; decide) e (.cons g1.dp (.cons g2.dp (.cons g3.dp .nil))) (fun u hu => by
    simp only [List.mem_cons, List.not_mem_nil, or_false] at hu
    rcases hu with rfl | rfl | rfl
    · exact ⟨g1.good, g1.kind, g1.deep, g1.few⟩
    · exact ⟨g2.good, g2.kind, g2.deep, g2.few⟩
    · exact ⟨g3.good, g3.kind, g3.deep, g3.few⟩) 3 (Nat.le_refl _)
theorem gives1 {b : Bool} (g : GotL K H m tb own d c b v1 t1) : GivesL m tb own d c [b] [t1] :=
  ⟨fun u hu => by
    rw [List.mem_singleton.mp hu]
    exact ⟨g.good, g.deep, g.few⟩, by rw [List.map_cons, g.kind]; rfl⟩
end
theorem framed_ok {tb : Tbl} {us : List RowU} (e : (us.map fun u => (u.1, u.2.1)) = tb) (nd : (tb.map (·.1)).Nodup) (main : tb.lookup ("main" : Str) = some []) (few : tb.length ≤ 8) (good : ∀ u ∈ us, GF 2 tb u.2.1 u.2.2) : ProgOk ((2 : Nat) : Int) tb us :=
  ⟨by decide, by decide, by rw [← e, List.length_map] at few; exact few, by rw [← e, List.map_map] at nd; exact nd, by rw [e]; exact main, (fun z => absurd z (by decide)), fun x o h => by rw [e]; exact h, good⟩
end FS
set_option Elab.async false
set_option linter.all false
set_option maxRecDepth 100000
set_option maxHeartbeats 4000000
namespace FS
open PySem PySem.Spec PyProof.Rows L2
section
variable {P : Program} {w : World} {K : PySem.W.Frag} {mg : Str → Option Value} {base : Heap}
abbrev N_law_framed : List Str := ["_law_sack_here", "_law_way", "_law_deed_here", "_law_twice", "_law_locked", "_law_again", "_law_deep", "_law_loop"]
theorem sc_law_framed : FnScope N_law_framed ["_law_sack_here"] (defScope s_law_framed) := ⟨rfl, rfl, rfl, by decide +kernel, rfl, by decide +kernel, by decide +kernel⟩
theorem ok_l_framed {f : Addr} {fd : FuncData} (F : Fun K "_law_framed" "_law_framed" s_law_framed f fd) (T : Nm K mg) (Cl_deal : Cal P w K mg base 1 "_law_deal" ["_law_sack_here", "_law_size"] spCast) (Cl_deed : Cal P w K mg base 3 "_law_deed" ["_law_sack_here", "_law_modes"] (spDeedK K)) : FnOk P w K mg base CX0 4 f fd ["_law_sack_here"] (spPlainK K []) := by
  have nd := sc_law_framed.nd
  refine F.ok sc_law_framed (fun vs H Q E h => ?_) (fun cdv A outer s H vs Q E hr h => ?_)
  · obtain ⟨D, rfl, d, q⟩ := h
    rfl
  · obtain ⟨D, rfl, d, q⟩ := h
    skip
    refine ⟨_, (pss_cons (ps_par (i := 1) (j := 2) (by rfl) nd rfl rfl (by decide) rfl rfl (pa_cons (pe_own Cl_deal (hr.mono (by decide)) (by rfl) (pa_cons (pv 0) (pa_cons pe_int pa_nil))) (pa_cons (pe_own Cl_deed (hr.mono (by decide)) (by rfl) (pa_cons (pv 0) (pa_cons pe_int pa_nil))) pa_nil)) (by rfl))
  (pss_cons (ps_set (i := 3) nd rfl (Or.inl rfl) (pe_tup (pa_cons pe_str (pa_cons (pe_tup (pa_cons (pe_tup (pa_cons pe_str (pa_cons pe_str pa_nil))) pa_nil)) (pa_cons (pe_tup (pa_cons pe_str (pa_cons (pe_tup (pa_cons pe_str (pa_cons pe_str pa_nil))) (pa_cons (pe_tup (pa_cons pe_str (pa_cons pe_str pa_nil))) pa_nil)))) pa_nil)))))
  (pss_cons (ps_set (i := 4) nd rfl (Or.inl rfl) (pe_tup (pa_cons pe_str (pa_cons (pe_tup (pa_cons (pe_tup (pa_cons pe_str (pa_cons pe_str pa_nil))) pa_nil)) (pa_cons (pe_tup (pa_cons pe_str (pa_cons (pe_tup (pa_cons pe_str (pa_cons pe_str (pa_cons (pe_tup (pa_cons pe_int (pa_cons pe_non pa_nil))) pa_nil)))) (pa_cons (pe_tup (pa_cons pe_str (pa_cons pe_str pa_nil))) (pa_cons (pe_tup (pa_cons pe_str (pa_cons pe_str (pa_cons (pe_tup (pa_cons pe_non (pa_cons pe_int pa_nil))) pa_nil)))) pa_nil))))) pa_nil)))))
  (pss_cons (ps_set (i := 5) nd rfl (Or.inl rfl) (pe_tup (pa_cons pe_str (pa_cons (pe_tup (pa_cons (pe_tup (pa_cons pe_str (pa_cons pe_str pa_nil))) (pa_cons (pe_tup (pa_cons pe_str (pa_cons pe_str pa_nil))) pa_nil))) (pa_cons (pe_tup (pa_cons pe_str (pa_cons (pe_tup (pa_cons pe_str (pa_cons pe_str pa_nil))) (pa_cons (pe_tup (pa_cons pe_str (pa_cons (pe_tup (pa_cons pe_str (pa_cons pe_str pa_nil))) (pa_cons (pe_tup (pa_cons pe_str (pa_cons pe_str pa_nil))) pa_nil)))) pa_nil)))) pa_nil)))))
  (pss_cons (ps_if (pt_cmpR op_eq (pv 1) pe_int (nomark _))
  (pss_one (ps_ret (pe_lst (pa_cons pe_int (pa_cons (pe_lst (pa_cons (pe_tup (pa_cons pe_str (pa_cons (pe_tup pa_nil) (pa_cons (pe_tup (pa_cons pe_str (pa_cons pe_str (pa_cons (pe_tup (pa_cons pe_str (pa_cons (pv 2) (pa_cons (pe_own Cl_deed (hr.mono (by decide)) (by rfl) (pa_cons (pv 0) (pa_cons pe_int pa_nil))) pa_nil)))) pa_nil)))) pa_nil)))) (pa_cons (pv 3) pa_nil))) pa_nil)))))
  pss_nil)
  (pss_cons (ps_if (pt_cmpR op_eq (pv 1) pe_int (nomark _))
  (pss_cons (ps_set (i := 6) nd rfl (Or.inl rfl) (pe_tup (pa_cons pe_str (pa_cons (pe_tup (pa_cons pe_str (pa_cons (pe_tup (pa_cons pe_str (pa_cons pe_str pa_nil))) (pa_cons (pv 2) pa_nil)))) (pa_cons (pe_tup (pa_cons pe_str (pa_cons pe_str (pa_cons (pe_tup (pa_cons pe_str (pa_cons pe_str (pa_cons (pe_tup (pa_cons pe_str (pa_cons pe_str pa_nil))) pa_nil)))) pa_nil)))) pa_nil)))))
  (pss_cons (ps_set (i := 6) nd rfl (Or.inl rfl) (pe_tup (pa_cons pe_str (pa_cons (pe_tup (pa_cons (pe_tup (pa_cons pe_str (pa_cons pe_str pa_nil))) pa_nil)) (pa_cons (pv 6) pa_nil)))))
  (pss_one (ps_ret (pe_lst (pa_cons pe_int (pa_cons (pe_lst (pa_cons (pe_tup (pa_cons pe_str (pa_cons (pe_tup pa_nil) (pa_cons (pe_tup (pa_cons pe_str (pa_cons pe_str (pa_cons (pe_tup (pa_cons pe_str (pa_cons pe_str pa_nil))) pa_nil)))) pa_nil)))) (pa_cons (pv 4) (pa_cons (pv 5) (pa_cons (pv 6) pa_nil))))) pa_nil)))))))
  pss_nil)
  (pss_cons (ps_set (i := 7) nd rfl (Or.inl rfl) (pe_tup (pa_cons pe_str (pa_cons (pe_tup (pa_cons pe_str (pa_cons pe_str pa_nil))) (pa_cons (pe_tup (pa_cons pe_str (pa_cons pe_str (pa_cons (pe_tup (pa_cons pe_str (pa_cons (pe_tup (pa_cons pe_str (pa_cons pe_str pa_nil))) (pa_cons (pe_own Cl_deed (hr.mono (by decide)) (by rfl) (pa_cons (pv 0) (pa_cons pe_int pa_nil))) pa_nil)))) pa_nil)))) pa_nil)))))
  (pss_one (ps_ret (pe_lst (pa_cons pe_int (pa_cons (pe_lst (pa_cons (pe_tup (pa_cons pe_str (pa_cons (pe_tup pa_nil) (pa_cons (pe_tup (pa_cons pe_str (pa_cons pe_str (pa_cons (pv 2) pa_nil)))) pa_nil)))) (pa_cons (pe_tup (pa_cons pe_str (pa_cons (pe_tup (pa_cons (pe_tup (pa_cons pe_str (pa_cons pe_str pa_nil))) pa_nil)) (pa_cons (pv 7) pa_nil)))) (pa_cons (pv 3) pa_nil)))) pa_nil)))))))))))), ?_⟩

    refine seq_gen (P := fun σ' H1 => ∃ r v, σ' = [some (.ref D), some (.int r), some v, none, none, none, none, none] ∧ Go D H H1 ∧ ∀ tb own, ∃ t, GotL K H1 2 tb own 1 1 false v t) (fun N hN => ?_) ?_
    · refine ⟨_, rfl, D, 3, rfl, d, by omega, by omega, fun r H1 r0 r1 g1 _ => ?_⟩
      refine ⟨_, rfl, D, 2, rfl, g1.2, by omega, by omega, fun v H2 g2 gt => ?_⟩
      exact ⟨_, _, rfl, hN _ _ ⟨r, v, rfl, g1.trans g2, gt⟩⟩
    rintro _ H1 ⟨r, v, rfl, g1, gt⟩
    refine seq_gen (P := fun σ' H' => ∃ r3, σ' = [some (.ref D), some (.int r), some v, some (.ref r3), none, none, none, none] ∧ Go D H1 H' ∧ ∀ tb, ∃ t, RowV K H' tb r3 ("twice", xO, t)) (fun N hN => ?_) ?_
    · have g0 := Go.refl g1.2
      refine ⟨by show 2 ≤ sizeLine; decide, fun pa1 na1 => ?_⟩
      have da1 := g0.2.ne na1
      generalize hX : upd H1 pa1 _ = Ha1
      have sa1 : Same H1 Ha1 := by
        rw [← hX]
        exact same_upd na1
      have ea1 := (congrFun hX pa1).symm.trans upd_same
      clear hX
      have ga1 := g0.same sa1
      refine ⟨by show 1 ≤ sizeLine; decide, fun pa2 na2 => ?_⟩
      have da2 := ga1.2.ne na2
      generalize hX : upd Ha1 pa2 _ = Ha2
      have sa2 : Same Ha1 Ha2 := by
        rw [← hX]
        exact same_upd na2
      have ea2 := (congrFun hX pa2).symm.trans upd_same
      clear hX
      have ga2 := ga1.same sa2
      refine ⟨by show 2 ≤ sizeLine; decide, fun pa3 na3 => ?_⟩
      have da3 := ga2.2.ne na3
      generalize hX : upd Ha2 pa3 _ = Ha3
      have sa3 : Same Ha2 Ha3 := by
        rw [← hX]
        exact same_upd na3
      have ea3 := (congrFun hX pa3).symm.trans upd_same
      clear hX
      have ga3 := ga2.same sa3
      refine ⟨by show 2 ≤ sizeLine; decide, fun pa4 na4 => ?_⟩
      have da4 := ga3.2.ne na4
      generalize hX : upd Ha3 pa4 _ = Ha4
      have sa4 : Same Ha3 Ha4 := by
        rw [← hX]
        exact same_upd na4
      have ea4 := (congrFun hX pa4).symm.trans upd_same
      clear hX
      have ga4 := ga3.same sa4
      refine ⟨by show 3 ≤ sizeLine; decide, fun pa5 na5 => ?_⟩
      have da5 := ga4.2.ne na5
      generalize hX : upd Ha4 pa5 _ = Ha5
      have sa5 : Same Ha4 Ha5 := by
        rw [← hX]
        exact same_upd na5
      have ea5 := (congrFun hX pa5).symm.trans upd_same
      clear hX
      have ga5 := ga4.same sa5
      refine ⟨by show 3 ≤ sizeLine; decide, fun pa6 na6 => ?_⟩
      have da6 := ga5.2.ne na6
      generalize hX : upd Ha5 pa6 _ = Ha6
      have sa6 : Same Ha5 Ha6 := by
        rw [← hX]
        exact same_upd na6
      have ea6 := (congrFun hX pa6).symm.trans upd_same
      clear hX
      have ga6 := ga5.same sa6
      have Ta6 := TK.refl Ha6
      have fa6 : SqT K Ha6 pa6 _ := Ta6.sqT (.inl (.inl ea6))
      have Ta5 := (TK.of sa6).trans Ta6
      have fa5 : SqT K Ha6 pa5 _ := Ta5.sqT (.inl (.inl ea5))
      have Ta4 := (TK.of sa5).trans Ta5
      have fa4 : SqT K Ha6 pa4 _ := Ta4.sqT (.inl (.inl ea4))
      have Ta3 := (TK.of sa4).trans Ta4
      have fa3 : SqT K Ha6 pa3 _ := Ta3.sqT (.inl (.inl ea3))
      have Ta2 := (TK.of sa3).trans Ta3
      have fa2 : SqT K Ha6 pa2 _ := Ta2.sqT (.inl (.inl ea2))
      have Ta1 := (TK.of sa2).trans Ta2
      have fa1 : SqT K Ha6 pa1 _ := Ta1.sqT (.inl (.inl ea1))
      have Ta0 := (TK.of sa1).trans Ta1
      refine hN _ _ ⟨pa6, rfl, ga6, fun tb => ?_⟩
      obtain ⟨t1, l1⟩ := gl_leaf (K := K) (m := 2) (tb := tb) (own := xO) (k := false) fa3 List.mem_cons_self
      obtain ⟨t2, l2⟩ := gl_leaf (K := K) (m := 2) (tb := tb) (own := xO) (k := false) fa4 List.mem_cons_self
      obtain ⟨t3, l3⟩ := gl_two false fa5 l1 l2
      exact ⟨t3, _, _, fa6, .tup fa2 (.cons (.tup fa1 (.cons (.str _) (.cons (.str _) .nil))) .nil), l3.up (by decide) (by decide)⟩
    rintro _ H2 ⟨r3, rfl, gs3, row3⟩
    have g2 := g1.trans gs3
    refine seq_gen (P := fun σ' H' => ∃ r4, σ' = [some (.ref D), some (.int r), some v, some (.ref r3), some (.ref r4), none, none, none] ∧ Go D H2 H' ∧ ∀ tb, ∃ t, RowV K H' tb r4 ("locked", bO, t)) (fun N hN => ?_) ?_
    · have g0 := Go.refl g2.2
      refine ⟨by show 2 ≤ sizeLine; decide, fun pb1 nb1 => ?_⟩
      have db1 := g0.2.ne nb1
      generalize hX : upd H2 pb1 _ = Hb1
      have sb1 : Same H2 Hb1 := by
        rw [← hX]
        exact same_upd nb1
      have eb1 := (congrFun hX pb1).symm.trans upd_same
      clear hX
      have gb1 := g0.same sb1
      refine ⟨by show 1 ≤ sizeLine; decide, fun pb2 nb2 => ?_⟩
      have db2 := gb1.2.ne nb2
      generalize hX : upd Hb1 pb2 _ = Hb2
      have sb2 : Same Hb1 Hb2 := by
        rw [← hX]
        exact same_upd nb2
      have eb2 := (congrFun hX pb2).symm.trans upd_same
      clear hX
      have gb2 := gb1.same sb2
      refine ⟨by show 2 ≤ sizeLine; decide, fun pb3 nb3 => ?_⟩
      have db3 := gb2.2.ne nb3
      generalize hX : upd Hb2 pb3 _ = Hb3
      have sb3 : Same Hb2 Hb3 := by
        rw [← hX]
        exact same_upd nb3
      have eb3 := (congrFun hX pb3).symm.trans upd_same
      clear hX
      have gb3 := gb2.same sb3
      refine ⟨by show 3 ≤ sizeLine; decide, fun pb4 nb4 => ?_⟩
      have db4 := gb3.2.ne nb4
      generalize hX : upd Hb3 pb4 _ = Hb4
      have sb4 : Same Hb3 Hb4 := by
        rw [← hX]
        exact same_upd nb4
      have eb4 := (congrFun hX pb4).symm.trans upd_same
      clear hX
      have gb4 := gb3.same sb4
      refine ⟨by show 2 ≤ sizeLine; decide, fun pb5 nb5 => ?_⟩
      have db5 := gb4.2.ne nb5
      generalize hX : upd Hb4 pb5 _ = Hb5
      have sb5 : Same Hb4 Hb5 := by
        rw [← hX]
        exact same_upd nb5
      have eb5 := (congrFun hX pb5).symm.trans upd_same
      clear hX
      have gb5 := gb4.same sb5
      refine ⟨by show 2 ≤ sizeLine; decide, fun pb6 nb6 => ?_⟩
      have db6 := gb5.2.ne nb6
      generalize hX : upd Hb5 pb6 _ = Hb6
      have sb6 : Same Hb5 Hb6 := by
        rw [← hX]
        exact same_upd nb6
      have eb6 := (congrFun hX pb6).symm.trans upd_same
      clear hX
      have gb6 := gb5.same sb6
      refine ⟨by show 3 ≤ sizeLine; decide, fun pb7 nb7 => ?_⟩
      have db7 := gb6.2.ne nb7
      generalize hX : upd Hb6 pb7 _ = Hb7
      have sb7 : Same Hb6 Hb7 := by
        rw [← hX]
        exact same_upd nb7
      have eb7 := (congrFun hX pb7).symm.trans upd_same
      clear hX
      have gb7 := gb6.same sb7
      refine ⟨by show 4 ≤ sizeLine; decide, fun pb8 nb8 => ?_⟩
      have db8 := gb7.2.ne nb8
      generalize hX : upd Hb7 pb8 _ = Hb8
      have sb8 : Same Hb7 Hb8 := by
        rw [← hX]
        exact same_upd nb8
      have eb8 := (congrFun hX pb8).symm.trans upd_same
      clear hX
      have gb8 := gb7.same sb8
      refine ⟨by show 3 ≤ sizeLine; decide, fun pb9 nb9 => ?_⟩
      have db9 := gb8.2.ne nb9
      generalize hX : upd Hb8 pb9 _ = Hb9
      have sb9 : Same Hb8 Hb9 := by
        rw [← hX]
        exact same_upd nb9
      have eb9 := (congrFun hX pb9).symm.trans upd_same
      clear hX
      have gb9 := gb8.same sb9
      have Tb9 := TK.refl Hb9
      have fb9 : SqT K Hb9 pb9 _ := Tb9.sqT (.inl (.inl eb9))
      have Tb8 := (TK.of sb9).trans Tb9
      have fb8 : SqT K Hb9 pb8 _ := Tb8.sqT (.inl (.inl eb8))
      have Tb7 := (TK.of sb8).trans Tb8
      have fb7 : SqT K Hb9 pb7 _ := Tb7.sqT (.inl (.inl eb7))
      have Tb6 := (TK.of sb7).trans Tb7
      have fb6 : SqT K Hb9 pb6 _ := Tb6.sqT (.inl (.inl eb6))
      have Tb5 := (TK.of sb6).trans Tb6
      have fb5 : SqT K Hb9 pb5 _ := Tb5.sqT (.inl (.inl eb5))
      have Tb4 := (TK.of sb5).trans Tb5
      have fb4 : SqT K Hb9 pb4 _ := Tb4.sqT (.inl (.inl eb4))
      have Tb3 := (TK.of sb4).trans Tb4
      have fb3 : SqT K Hb9 pb3 _ := Tb3.sqT (.inl (.inl eb3))
      have Tb2 := (TK.of sb3).trans Tb3
      have fb2 : SqT K Hb9 pb2 _ := Tb2.sqT (.inl (.inl eb2))
      have Tb1 := (TK.of sb2).trans Tb2
      have fb1 : SqT K Hb9 pb1 _ := Tb1.sqT (.inl (.inl eb1))
      have Tb0 := (TK.of sb1).trans Tb1
      refine hN _ _ ⟨pb9, rfl, gb9, fun tb => ?_⟩
      obtain ⟨t1, l1⟩ := gl_deed (K := K) (k := 2) (tb := tb) (own := bO) (es := [some 1, none]) (by decide) (by decide) (by decide +kernel) rfl (by decide) fb4 (.tup fb3 (.cons (.int _) (.cons .non .nil)))
      obtain ⟨t2, l2⟩ := gl_leaf (K := K) (m := 2) (tb := tb) (own := bO) (k := false) fb5 List.mem_cons_self
      obtain ⟨t3, l3⟩ := gl_deed (K := K) (k := 2) (tb := tb) (own := bO) (es := [none, some 0]) (by decide) (by decide) (by decide +kernel) rfl (by decide) fb7 (.tup fb6 (.cons .non (.cons (.int _) .nil)))
      obtain ⟨t4, l4⟩ := gl_three false fb8 l1 l2 l3
      exact ⟨t4, _, _, fb9, .tup fb2 (.cons (.tup fb1 (.cons (.str _) (.cons (.str _) .nil))) .nil), l4.up (by decide) (by decide)⟩
    rintro _ H3 ⟨r4, rfl, gs4, row4⟩
    have g3 := g2.trans gs4
    refine seq_gen (P := fun σ' H' => ∃ r5, σ' = [some (.ref D), some (.int r), some v, some (.ref r3), some (.ref r4), some (.ref r5), none, none] ∧ Go D H3 H' ∧ ∀ tb, ∃ t, RowV K H' tb r5 ("again", wbO, t)) (fun N hN => ?_) ?_
    · have g0 := Go.refl g3.2
      refine ⟨by show 2 ≤ sizeLine; decide, fun pc1 nc1 => ?_⟩
      have dc1 := g0.2.ne nc1
      generalize hX : upd H3 pc1 _ = Hc1
      have sc1 : Same H3 Hc1 := by
        rw [← hX]
        exact same_upd nc1
      have ec1 := (congrFun hX pc1).symm.trans upd_same
      clear hX
      have gc1 := g0.same sc1
      refine ⟨by show 2 ≤ sizeLine; decide, fun pc2 nc2 => ?_⟩
      have dc2 := gc1.2.ne nc2
      generalize hX : upd Hc1 pc2 _ = Hc2
      have sc2 : Same Hc1 Hc2 := by
        rw [← hX]
        exact same_upd nc2
      have ec2 := (congrFun hX pc2).symm.trans upd_same
      clear hX
      have gc2 := gc1.same sc2
      refine ⟨by show 2 ≤ sizeLine; decide, fun pc3 nc3 => ?_⟩
      have dc3 := gc2.2.ne nc3
      generalize hX : upd Hc2 pc3 _ = Hc3
      have sc3 : Same Hc2 Hc3 := by
        rw [← hX]
        exact same_upd nc3
      have ec3 := (congrFun hX pc3).symm.trans upd_same
      clear hX
      have gc3 := gc2.same sc3
      refine ⟨by show 2 ≤ sizeLine; decide, fun pc4 nc4 => ?_⟩
      have dc4 := gc3.2.ne nc4
      generalize hX : upd Hc3 pc4 _ = Hc4
      have sc4 : Same Hc3 Hc4 := by
        rw [← hX]
        exact same_upd nc4
      have ec4 := (congrFun hX pc4).symm.trans upd_same
      clear hX
      have gc4 := gc3.same sc4
      refine ⟨by show 2 ≤ sizeLine; decide, fun pc5 nc5 => ?_⟩
      have dc5 := gc4.2.ne nc5
      generalize hX : upd Hc4 pc5 _ = Hc5
      have sc5 : Same Hc4 Hc5 := by
        rw [← hX]
        exact same_upd nc5
      have ec5 := (congrFun hX pc5).symm.trans upd_same
      clear hX
      have gc5 := gc4.same sc5
      refine ⟨by show 2 ≤ sizeLine; decide, fun pc6 nc6 => ?_⟩
      have dc6 := gc5.2.ne nc6
      generalize hX : upd Hc5 pc6 _ = Hc6
      have sc6 : Same Hc5 Hc6 := by
        rw [← hX]
        exact same_upd nc6
      have ec6 := (congrFun hX pc6).symm.trans upd_same
      clear hX
      have gc6 := gc5.same sc6
      refine ⟨by show 3 ≤ sizeLine; decide, fun pc7 nc7 => ?_⟩
      have dc7 := gc6.2.ne nc7
      generalize hX : upd Hc6 pc7 _ = Hc7
      have sc7 : Same Hc6 Hc7 := by
        rw [← hX]
        exact same_upd nc7
      have ec7 := (congrFun hX pc7).symm.trans upd_same
      clear hX
      have gc7 := gc6.same sc7
      refine ⟨by show 3 ≤ sizeLine; decide, fun pc8 nc8 => ?_⟩
      have dc8 := gc7.2.ne nc8
      generalize hX : upd Hc7 pc8 _ = Hc8
      have sc8 : Same Hc7 Hc8 := by
        rw [← hX]
        exact same_upd nc8
      have ec8 := (congrFun hX pc8).symm.trans upd_same
      clear hX
      have gc8 := gc7.same sc8
      refine ⟨by show 3 ≤ sizeLine; decide, fun pc9 nc9 => ?_⟩
      have dc9 := gc8.2.ne nc9
      generalize hX : upd Hc8 pc9 _ = Hc9
      have sc9 : Same Hc8 Hc9 := by
        rw [← hX]
        exact same_upd nc9
      have ec9 := (congrFun hX pc9).symm.trans upd_same
      clear hX
      have gc9 := gc8.same sc9
      have Tc9 := TK.refl Hc9
      have fc9 : SqT K Hc9 pc9 _ := Tc9.sqT (.inl (.inl ec9))
      have Tc8 := (TK.of sc9).trans Tc9
      have fc8 : SqT K Hc9 pc8 _ := Tc8.sqT (.inl (.inl ec8))
      have Tc7 := (TK.of sc8).trans Tc8
      have fc7 : SqT K Hc9 pc7 _ := Tc7.sqT (.inl (.inl ec7))
      have Tc6 := (TK.of sc7).trans Tc7
      have fc6 : SqT K Hc9 pc6 _ := Tc6.sqT (.inl (.inl ec6))
      have Tc5 := (TK.of sc6).trans Tc6
      have fc5 : SqT K Hc9 pc5 _ := Tc5.sqT (.inl (.inl ec5))
      have Tc4 := (TK.of sc5).trans Tc5
      have fc4 : SqT K Hc9 pc4 _ := Tc4.sqT (.inl (.inl ec4))
      have Tc3 := (TK.of sc4).trans Tc4
      have fc3 : SqT K Hc9 pc3 _ := Tc3.sqT (.inl (.inl ec3))
      have Tc2 := (TK.of sc3).trans Tc3
      have fc2 : SqT K Hc9 pc2 _ := Tc2.sqT (.inl (.inl ec2))
      have Tc1 := (TK.of sc2).trans Tc2
      have fc1 : SqT K Hc9 pc1 _ := Tc1.sqT (.inl (.inl ec1))
      have Tc0 := (TK.of sc1).trans Tc1
      refine hN _ _ ⟨pc9, rfl, gc9, fun tb => ?_⟩
      obtain ⟨t1, l1⟩ := gl_leaf (K := K) (m := 2) (tb := tb) (own := wbO) (k := true) fc4 List.mem_cons_self
      obtain ⟨t2, l2⟩ := gl_leaf (K := K) (m := 2) (tb := tb) (own := wbO) (k := true) fc5 List.mem_cons_self
      obtain ⟨t3, l3⟩ := gl_leaf (K := K) (m := 2) (tb := tb) (own := wbO) (k := false) fc6 (List.mem_cons_of_mem _ List.mem_cons_self)
      obtain ⟨t4, l4⟩ := gl_wrap fc7 l2 l3
      obtain ⟨t5, l5⟩ := gl_wrap fc8 l1 l4
      exact ⟨t5, _, _, fc9, .tup fc3 (.cons (.tup fc1 (.cons (.str _) (.cons (.str _) .nil))) (.cons (.tup fc2 (.cons (.str _) (.cons (.str _) .nil))) .nil)), l5.up (by decide) (by decide)⟩
    rintro _ H4 ⟨r5, rfl, gs5, row5⟩
    have g4 := g3.trans gs5
    have row3 : ∀ tb, ∃ t, RowV K H4 tb r3 ("twice", xO, t) := fun tb => (row3 tb).imp fun t x => x.tk ((gs4.tk g2.2).trans (gs5.tk g3.2))
    have row4 : ∀ tb, ∃ t, RowV K H4 tb r4 ("locked", bO, t) := fun tb => (row4 tb).imp fun t x => x.tk (gs5.tk g3.2)
    have gt4 : ∀ tb own, ∃ t, GotL K H4 2 tb own 1 1 false v t := fun tb own => (gt tb own).imp fun t x => x.tk (((gs3.tk g1.2).trans (gs4.tk g2.2)).trans (gs5.tk g3.2))
    clear gt
    refine ifr_gen (fun H' => H' = H4) (fun H' => H' = H4) (fun Q' y0 n0 => ⟨_, rfl, rfl, _, rfl, ?_⟩) (fun H1' h1 => ?_) (fun H1' h1 => ?_)
    · generalize decide (V.int r = V.int 0) = b
      cases b with
      | true => exact y0 _ rfl
      | false => exact n0 _ rfl
    · replace h1 := h1.symm
      subst h1
      refine ⟨by show 0 ≤ sizeLine; decide, fun pu1 nu1 => ?_⟩
      have du1 := g4.2.ne nu1
      generalize hX : upd H4 pu1 _ = Hu1
      have su1 : Same H4 Hu1 := by
        rw [← hX]
        exact same_upd nu1
      have eu1 := (congrFun hX pu1).symm.trans upd_same
      clear hX
      have gu1 := g4.same su1
      refine ⟨_, rfl, _, rfl, D, 2, rfl, gu1.2, by omega, by omega, fun vu2 Hu2 ggu2 gtu2 => ?_⟩
      have gu2 := gu1.trans ggu2
      refine ⟨by show 3 ≤ sizeLine; decide, fun pu3 nu3 => ?_⟩
      have du3 := gu2.2.ne nu3
      generalize hX : upd Hu2 pu3 _ = Hu3
      have su3 : Same Hu2 Hu3 := by
        rw [← hX]
        exact same_upd nu3
      have eu3 := (congrFun hX pu3).symm.trans upd_same
      clear hX
      have gu3 := gu2.same su3
      refine ⟨by show 3 ≤ sizeLine; decide, fun pu4 nu4 => ?_⟩
      have du4 := gu3.2.ne nu4
      generalize hX : upd Hu3 pu4 _ = Hu4
      have su4 : Same Hu3 Hu4 := by
        rw [← hX]
        exact same_upd nu4
      have eu4 := (congrFun hX pu4).symm.trans upd_same
      clear hX
      have gu4 := gu3.same su4
      refine ⟨by show 3 ≤ sizeLine; decide, fun pu5 nu5 => ?_⟩
      have du5 := gu4.2.ne nu5
      generalize hX : upd Hu4 pu5 _ = Hu5
      have su5 : Same Hu4 Hu5 := by
        rw [← hX]
        exact same_upd nu5
      have eu5 := (congrFun hX pu5).symm.trans upd_same
      clear hX
      have gu5 := gu4.same su5
      refine ⟨_, rfl, by show 2 ≤ sizeLine; decide, fun pu6 nu6 => ?_⟩
      have du6 := gu5.2.ne nu6
      generalize hX : upd Hu5 pu6 _ = Hu6
      have su6 : Same Hu5 Hu6 := by
        rw [← hX]
        exact same_upd nu6
      have eu6 := (congrFun hX pu6).symm.trans upd_same
      clear hX
      have gu6 := gu5.same su6
      refine ⟨by show 2 ≤ sizeLine; decide, fun pu7 nu7 => ?_⟩
      have du7 := gu6.2.ne nu7
      generalize hX : upd Hu6 pu7 _ = Hu7
      have su7 : Same Hu6 Hu7 := by
        rw [← hX]
        exact same_upd nu7
      have eu7 := (congrFun hX pu7).symm.trans upd_same
      clear hX
      have gu7 := gu6.same su7
      have Tu7 := TK.refl Hu7
      have Tu6 := (TK.of su7).trans Tu7
      have Tu5 := (TK.of su6).trans Tu6
      have fu5 : SqT K Hu7 pu5 _ := Tu5.sqT (.inl (.inl eu5))
      have Tu4 := (TK.of su5).trans Tu5
      have fu4 : SqT K Hu7 pu4 _ := Tu4.sqT (.inl (.inl eu4))
      have Tu3 := (TK.of su4).trans Tu4
      have fu3 : SqT K Hu7 pu3 _ := Tu3.sqT (.inl (.inl eu3))
      have Tu2 := (TK.of su3).trans Tu3
      have Tu1 := (ggu2.tk gu1.2).trans Tu2
      have fu1 : SqT K Hu7 pu1 _ := Tu1.sqT (.inl (.inl eu1))
      have Tu0 := (TK.of su1).trans Tu1
      obtain ⟨t1, l1⟩ := gt4 (tbU ["main", "twice"] [[], xO]) []
      obtain ⟨t2, l2⟩ := gtu2 (tbU ["main", "twice"] [[], xO]) []
      obtain ⟨t3, l3⟩ := gl_two true fu3 (l1.tk Tu0) (l2.tk Tu2)
      obtain ⟨t4, l4⟩ := gl_call (ks := [false]) (us := [t3]) (c := 3) (d := 2) false (by decide +kernel) fu4 (.cons l3.dp .nil) (gives1 l3) 1 (by decide) (by decide +kernel)
      obtain ⟨t5, l5⟩ := row3 (tbU ["main", "twice"] [[], xO])
      refine q _ pu7 pu6 2 [pu5, r3] [("main", [], t4), ("twice", xO, t5)] (tbU ["main", "twice"] [[], xO]) gu7 eu7 (su7 _ _ eu6) ?_ ?_ du7 du6
      · exact .cons (u := ("main", [], t4)) fu5 (.tup fu1 .nil) (l4.up (by decide) (by decide)) nilOk (show wordB ("main" : Str) = true by decide +kernel) ((l5.tk Tu0).row xO_ok (by decide +kernel) .nil)
      · exact framed_ok rfl (by decide +kernel) rfl (by decide) (by intro u hu; simp only [List.mem_cons, List.not_mem_nil, or_false] at hu; rcases hu with rfl | rfl; exact l4.good; exact l5.good)
    replace h1 := h1.symm
    subst h1
    refine ifr_gen (fun H' => H' = H4) (fun H' => H' = H4) (fun Q' y0 n0 => ⟨_, rfl, rfl, _, rfl, ?_⟩) (fun H1' h1 => ?_) (fun H1' h1 => ?_)
    · generalize decide (V.int r = V.int 1) = b
      cases b with
      | true => exact y0 _ rfl
      | false => exact n0 _ rfl
    · replace h1 := h1.symm
      subst h1
      refine seq_gen (P := fun σ' H' => ∃ r6, σ' = [some (.ref D), some (.int r), some v, some (.ref r3), some (.ref r4), some (.ref r5), some (.ref r6), none] ∧ Go D H H' ∧ TK H4 H' ∧ ∃ t, GotL K H' 2 (tbU ["main", "locked", "again", "deep"] [[], bO, wbO, wO]) wO 4 8 false (.ref r6) t) (fun N hN => ?_) ?_
      · skip
        refine ⟨by show 2 ≤ sizeLine; decide, fun px1 nx1 => ?_⟩
        have dx1 := g4.2.ne nx1
        generalize hX : upd H4 px1 _ = Hx1
        have sx1 : Same H4 Hx1 := by
          rw [← hX]
          exact same_upd nx1
        have ex1 := (congrFun hX px1).symm.trans upd_same
        clear hX
        have gx1 := g4.same sx1
        refine ⟨_, rfl, by show 3 ≤ sizeLine; decide, fun px2 nx2 => ?_⟩
        have dx2 := gx1.2.ne nx2
        generalize hX : upd Hx1 px2 _ = Hx2
        have sx2 : Same Hx1 Hx2 := by
          rw [← hX]
          exact same_upd nx2
        have ex2 := (congrFun hX px2).symm.trans upd_same
        clear hX
        have gx2 := gx1.same sx2
        refine ⟨by show 2 ≤ sizeLine; decide, fun px3 nx3 => ?_⟩
        have dx3 := gx2.2.ne nx3
        generalize hX : upd Hx2 px3 _ = Hx3
        have sx3 : Same Hx2 Hx3 := by
          rw [← hX]
          exact same_upd nx3
        have ex3 := (congrFun hX px3).symm.trans upd_same
        clear hX
        have gx3 := gx2.same sx3
        refine ⟨by show 3 ≤ sizeLine; decide, fun px4 nx4 => ?_⟩
        have dx4 := gx3.2.ne nx4
        generalize hX : upd Hx3 px4 _ = Hx4
        have sx4 : Same Hx3 Hx4 := by
          rw [← hX]
          exact same_upd nx4
        have ex4 := (congrFun hX px4).symm.trans upd_same
        clear hX
        have gx4 := gx3.same sx4
        refine ⟨by show 3 ≤ sizeLine; decide, fun px5 nx5 => ?_⟩
        have dx5 := gx4.2.ne nx5
        generalize hX : upd Hx4 px5 _ = Hx5
        have sx5 : Same Hx4 Hx5 := by
          rw [← hX]
          exact same_upd nx5
        have ex5 := (congrFun hX px5).symm.trans upd_same
        clear hX
        have gx5 := gx4.same sx5
        refine ⟨by show 3 ≤ sizeLine; decide, fun px6 nx6 => ?_⟩
        have dx6 := gx5.2.ne nx6
        generalize hX : upd Hx5 px6 _ = Hx6
        have sx6 : Same Hx5 Hx6 := by
          rw [← hX]
          exact same_upd nx6
        have ex6 := (congrFun hX px6).symm.trans upd_same
        clear hX
        have gx6 := gx5.same sx6
        have Tx6 := TK.refl Hx6
        have fx6 : SqT K Hx6 px6 _ := Tx6.sqT (.inl (.inl ex6))
        have Tx5 := (TK.of sx6).trans Tx6
        have fx5 : SqT K Hx6 px5 _ := Tx5.sqT (.inl (.inl ex5))
        have Tx4 := (TK.of sx5).trans Tx5
        have fx4 : SqT K Hx6 px4 _ := Tx4.sqT (.inl (.inl ex4))
        have Tx3 := (TK.of sx4).trans Tx4
        have fx3 : SqT K Hx6 px3 _ := Tx3.sqT (.inl (.inl ex3))
        have Tx2 := (TK.of sx3).trans Tx3
        have fx2 : SqT K Hx6 px2 _ := Tx2.sqT (.inl (.inl ex2))
        have Tx1 := (TK.of sx2).trans Tx2
        have fx1 : SqT K Hx6 px1 _ := Tx1.sqT (.inl (.inl ex1))
        have Tx0 := (TK.of sx1).trans Tx1
        obtain ⟨t1, l1⟩ := gl_leaf (K := K) (m := 2) (tb := tbU ["main", "locked", "again", "deep"] [[], bO, wbO, wO]) (own := wO) (k := true) fx1 List.mem_cons_self
        obtain ⟨t2, l2⟩ := gt4 (tbU ["main", "locked", "again", "deep"] [[], bO, wbO, wO]) wO
        obtain ⟨t3, l3⟩ := gl_wrap fx2 l1 (l2.tk Tx0)
        obtain ⟨t4, l4⟩ := gl_leaf (K := K) (m := 2) (tb := tbU ["main", "locked", "again", "deep"] [[], bO, wbO, wO]) (own := wO) (k := true) fx3 List.mem_cons_self
        obtain ⟨t5, l5⟩ := gl_call (ks := [true]) (us := [t4]) (c := 1) (d := 1) true (by decide +kernel) fx4 (.cons l4.dp .nil) (gives1 l4) 1 (by decide) (by decide +kernel)
        obtain ⟨t6, l6⟩ := gl_call (ks := [true]) (us := [t5]) (c := 2) (d := 2) false (by decide +kernel) fx5 (.cons l5.dp .nil) (gives1 l5) 1 (by decide) (by decide +kernel)
        obtain ⟨t7, l7⟩ := gl_two true fx6 (l3.up (d' := 3) (c' := 3) (by decide) (by decide)) (l6.up (d' := 3) (c' := 3) (by decide) (by decide))
        exact hN _ _ ⟨px6, rfl, gx6, Tx0, t7, l7.up (by decide) (by decide)⟩
      rintro _ H5 ⟨r6, rfl, g5, t5, td, ld⟩
      refine seq_gen (P := fun σ' H' => ∃ r6, σ' = [some (.ref D), some (.int r), some v, some (.ref r3), some (.ref r4), some (.ref r5), some (.ref r6), none] ∧ Go D H H' ∧ TK H4 H' ∧ RowV K H' (tbU ["main", "locked", "again", "deep"] [[], bO, wbO, wO]) r6 ("deep", wO, td)) (fun N hN => ?_) ?_
      · skip
        refine ⟨by show 2 ≤ sizeLine; decide, fun py1 ny1 => ?_⟩
        have dy1 := g5.2.ne ny1
        generalize hX : upd H5 py1 _ = Hy1
        have sy1 : Same H5 Hy1 := by
          rw [← hX]
          exact same_upd ny1
        have ey1 := (congrFun hX py1).symm.trans upd_same
        clear hX
        have gy1 := g5.same sy1
        refine ⟨by show 1 ≤ sizeLine; decide, fun py2 ny2 => ?_⟩
        have dy2 := gy1.2.ne ny2
        generalize hX : upd Hy1 py2 _ = Hy2
        have sy2 : Same Hy1 Hy2 := by
          rw [← hX]
          exact same_upd ny2
        have ey2 := (congrFun hX py2).symm.trans upd_same
        clear hX
        have gy2 := gy1.same sy2
        refine ⟨_, rfl, by show 3 ≤ sizeLine; decide, fun py3 ny3 => ?_⟩
        have dy3 := gy2.2.ne ny3
        generalize hX : upd Hy2 py3 _ = Hy3
        have sy3 : Same Hy2 Hy3 := by
          rw [← hX]
          exact same_upd ny3
        have ey3 := (congrFun hX py3).symm.trans upd_same
        clear hX
        have gy3 := gy2.same sy3
        have Ty3 := TK.refl Hy3
        have fy3 : SqT K Hy3 py3 _ := Ty3.sqT (.inl (.inl ey3))
        have Ty2 := (TK.of sy3).trans Ty3
        have fy2 : SqT K Hy3 py2 _ := Ty2.sqT (.inl (.inl ey2))
        have Ty1 := (TK.of sy2).trans Ty2
        have fy1 : SqT K Hy3 py1 _ := Ty1.sqT (.inl (.inl ey1))
        have Ty0 := (TK.of sy1).trans Ty1
        exact hN _ _ ⟨py3, rfl, gy3, t5.trans Ty0, _, _, fy3, .tup fy2 (.cons (.tup fy1 (.cons (.str _) (.cons (.str _) .nil))) .nil), (ld.tk Ty0).up (by decide) (by decide)⟩
      clear ld t5 g5
      rintro _ H6 ⟨r6, rfl, g6, t6, row6⟩
      refine ⟨by show 0 ≤ sizeLine; decide, fun pz1 nz1 => ?_⟩
      have dz1 := g6.2.ne nz1
      generalize hX : upd H6 pz1 _ = Hz1
      have sz1 : Same H6 Hz1 := by
        rw [← hX]
        exact same_upd nz1
      have ez1 := (congrFun hX pz1).symm.trans upd_same
      clear hX
      have gz1 := g6.same sz1
      refine ⟨by show 2 ≤ sizeLine; decide, fun pz2 nz2 => ?_⟩
      have dz2 := gz1.2.ne nz2
      generalize hX : upd Hz1 pz2 _ = Hz2
      have sz2 : Same Hz1 Hz2 := by
        rw [← hX]
        exact same_upd nz2
      have ez2 := (congrFun hX pz2).symm.trans upd_same
      clear hX
      have gz2 := gz1.same sz2
      refine ⟨by show 3 ≤ sizeLine; decide, fun pz3 nz3 => ?_⟩
      have dz3 := gz2.2.ne nz3
      generalize hX : upd Hz2 pz3 _ = Hz3
      have sz3 : Same Hz2 Hz3 := by
        rw [← hX]
        exact same_upd nz3
      have ez3 := (congrFun hX pz3).symm.trans upd_same
      clear hX
      have gz3 := gz2.same sz3
      refine ⟨by show 3 ≤ sizeLine; decide, fun pz4 nz4 => ?_⟩
      have dz4 := gz3.2.ne nz4
      generalize hX : upd Hz3 pz4 _ = Hz4
      have sz4 : Same Hz3 Hz4 := by
        rw [← hX]
        exact same_upd nz4
      have ez4 := (congrFun hX pz4).symm.trans upd_same
      clear hX
      have gz4 := gz3.same sz4
      refine ⟨_, rfl, _, rfl, _, rfl, by show 4 ≤ sizeLine; decide, fun pz5 nz5 => ?_⟩
      have dz5 := gz4.2.ne nz5
      generalize hX : upd Hz4 pz5 _ = Hz5
      have sz5 : Same Hz4 Hz5 := by
        rw [← hX]
        exact same_upd nz5
      have ez5 := (congrFun hX pz5).symm.trans upd_same
      clear hX
      have gz5 := gz4.same sz5
      refine ⟨by show 2 ≤ sizeLine; decide, fun pz6 nz6 => ?_⟩
      have dz6 := gz5.2.ne nz6
      generalize hX : upd Hz5 pz6 _ = Hz6
      have sz6 : Same Hz5 Hz6 := by
        rw [← hX]
        exact same_upd nz6
      have ez6 := (congrFun hX pz6).symm.trans upd_same
      clear hX
      have gz6 := gz5.same sz6
      have Tz6 := TK.refl Hz6
      have Tz5 := (TK.of sz6).trans Tz6
      have Tz4 := (TK.of sz5).trans Tz5
      have fz4 : SqT K Hz6 pz4 _ := Tz4.sqT (.inl (.inl ez4))
      have Tz3 := (TK.of sz4).trans Tz4
      have fz3 : SqT K Hz6 pz3 _ := Tz3.sqT (.inl (.inl ez3))
      have Tz2 := (TK.of sz3).trans Tz3
      have fz2 : SqT K Hz6 pz2 _ := Tz2.sqT (.inl (.inl ez2))
      have Tz1 := (TK.of sz2).trans Tz2
      have fz1 : SqT K Hz6 pz1 _ := Tz1.sqT (.inl (.inl ez1))
      have Tz0 := (TK.of sz1).trans Tz1
      obtain ⟨t1, l1⟩ := gl_call (K := K) (m := 2) (tb := tbU ["main", "locked", "again", "deep"] [[], bO, wbO, wO]) (own := []) (ks := []) (us := []) (vs := []) (c := 1) (d := 1) true (by decide +kernel) fz2 .nil ⟨(fun _ h => nomatch h), rfl⟩ 0 (by decide) (by decide +kernel)
      obtain ⟨t2, l2⟩ := gl_call (ks := [true]) (us := [t1]) (c := 1) (d := 2) false (by decide +kernel) fz3 (.cons l1.dp .nil) (gives1 l1) 1 (by decide) (by decide +kernel)
      obtain ⟨t4, l4⟩ := row4 (tbU ["main", "locked", "again", "deep"] [[], bO, wbO, wO])
      obtain ⟨t5, l5⟩ := row5 (tbU ["main", "locked", "again", "deep"] [[], bO, wbO, wO])
      refine q _ pz6 pz5 2 [pz4, r4, r5, r6] [("main", [], t2), ("locked", bO, t4), ("again", wbO, t5), ("deep", wO, td)] (tbU ["main", "locked", "again", "deep"] [[], bO, wbO, wO]) gz6 ez6 (sz6 _ _ ez5) ?_ ?_ dz6 dz5
      · exact .cons (u := ("main", [], t2)) fz4 (.tup fz1 .nil) (l2.up (by decide) (by decide)) nilOk (show wordB ("main" : Str) = true by decide +kernel) ((l4.tk (t6.trans Tz0)).row bO_ok (by decide +kernel) ((l5.tk (t6.trans Tz0)).row wbO_ok (by decide +kernel) ((row6.tk Tz0).row wO_ok (by decide +kernel) .nil)))
      · exact framed_ok rfl (by decide +kernel) rfl (by decide) (by intro u hu; simp only [List.mem_cons, List.not_mem_nil, or_false] at hu; rcases hu with rfl | rfl | rfl | rfl; exact l2.good; exact l4.good; exact l5.good; exact row6.good)
    replace h1 := h1.symm
    subst h1
    refine seq_gen (P := fun σ' H' => ∃ r7, σ' = [some (.ref D), some (.int r), some v, some (.ref r3), some (.ref r4), some (.ref r5), none, some (.ref r7)] ∧ Go D H H' ∧ TK H4 H' ∧ ∃ t, GotL K H' 2 (tbU ["main", "loop", "twice"] [[], xO, xO]) xO 4 9 false (.ref r7) t) (fun N hN => ?_) ?_
    · skip
      refine ⟨by show 2 ≤ sizeLine; decide, fun px1 nx1 => ?_⟩
      have dx1 := g4.2.ne nx1
      generalize hX : upd H4 px1 _ = Hx1
      have sx1 : Same H4 Hx1 := by
        rw [← hX]
        exact same_upd nx1
      have ex1 := (congrFun hX px1).symm.trans upd_same
      clear hX
      have gx1 := g4.same sx1
      refine ⟨by show 2 ≤ sizeLine; decide, fun px2 nx2 => ?_⟩
      have dx2 := gx1.2.ne nx2
      generalize hX : upd Hx1 px2 _ = Hx2
      have sx2 : Same Hx1 Hx2 := by
        rw [← hX]
        exact same_upd nx2
      have ex2 := (congrFun hX px2).symm.trans upd_same
      clear hX
      have gx2 := gx1.same sx2
      refine ⟨_, rfl, D, 2, rfl, gx2.2, by omega, by omega, fun vx3 Hx3 ggx3 gtx3 => ?_⟩
      have gx3 := gx2.trans ggx3
      refine ⟨by show 3 ≤ sizeLine; decide, fun px4 nx4 => ?_⟩
      have dx4 := gx3.2.ne nx4
      generalize hX : upd Hx3 px4 _ = Hx4
      have sx4 : Same Hx3 Hx4 := by
        rw [← hX]
        exact same_upd nx4
      have ex4 := (congrFun hX px4).symm.trans upd_same
      clear hX
      have gx4 := gx3.same sx4
      refine ⟨by show 3 ≤ sizeLine; decide, fun px5 nx5 => ?_⟩
      have dx5 := gx4.2.ne nx5
      generalize hX : upd Hx4 px5 _ = Hx5
      have sx5 : Same Hx4 Hx5 := by
        rw [← hX]
        exact same_upd nx5
      have ex5 := (congrFun hX px5).symm.trans upd_same
      clear hX
      have gx5 := gx4.same sx5
      refine ⟨by show 3 ≤ sizeLine; decide, fun px6 nx6 => ?_⟩
      have dx6 := gx5.2.ne nx6
      generalize hX : upd Hx5 px6 _ = Hx6
      have sx6 : Same Hx5 Hx6 := by
        rw [← hX]
        exact same_upd nx6
      have ex6 := (congrFun hX px6).symm.trans upd_same
      clear hX
      have gx6 := gx5.same sx6
      have Tx6 := TK.refl Hx6
      have fx6 : SqT K Hx6 px6 _ := Tx6.sqT (.inl (.inl ex6))
      have Tx5 := (TK.of sx6).trans Tx6
      have fx5 : SqT K Hx6 px5 _ := Tx5.sqT (.inl (.inl ex5))
      have Tx4 := (TK.of sx5).trans Tx5
      have fx4 : SqT K Hx6 px4 _ := Tx4.sqT (.inl (.inl ex4))
      have Tx3 := (TK.of sx4).trans Tx4
      have Tx2 := (ggx3.tk gx2.2).trans Tx3
      have fx2 : SqT K Hx6 px2 _ := Tx2.sqT (.inl (.inl ex2))
      have Tx1 := (TK.of sx2).trans Tx2
      have fx1 : SqT K Hx6 px1 _ := Tx1.sqT (.inl (.inl ex1))
      have Tx0 := (TK.of sx1).trans Tx1
      obtain ⟨t1, l1⟩ := gl_leaf (K := K) (m := 2) (tb := tbU ["main", "loop", "twice"] [[], xO, xO]) (own := xO) (k := false) fx1 List.mem_cons_self
      obtain ⟨t2, l2⟩ := gl_leaf (K := K) (m := 2) (tb := tbU ["main", "loop", "twice"] [[], xO, xO]) (own := xO) (k := false) fx2 List.mem_cons_self
      obtain ⟨t3, l3⟩ := gtx3 (tbU ["main", "loop", "twice"] [[], xO, xO]) xO
      obtain ⟨t4, l4⟩ := gl_two false fx4 l2 (l3.tk Tx3)
      obtain ⟨t5, l5⟩ := gl_call (ks := [false]) (us := [t4]) (c := 3) (d := 2) false (by decide +kernel) fx5 (.cons l4.dp .nil) (gives1 l4) 1 (by decide) (by decide +kernel)
      obtain ⟨t6, l6⟩ := gl_two true fx6 (l1.up (d' := 3) (c' := 4) (by decide) (by decide)) (l5.up (d' := 3) (c' := 4) (by decide) (by decide))
      exact hN _ _ ⟨px6, rfl, gx6, Tx0, t6, l6.up (by decide) (by decide)⟩
    rintro _ H5 ⟨r7, rfl, g5, t5, td, ld⟩
    refine ⟨by show 0 ≤ sizeLine; decide, fun pz1 nz1 => ?_⟩
    have dz1 := g5.2.ne nz1
    generalize hX : upd H5 pz1 _ = Hz1
    have sz1 : Same H5 Hz1 := by
      rw [← hX]
      exact same_upd nz1
    have ez1 := (congrFun hX pz1).symm.trans upd_same
    clear hX
    have gz1 := g5.same sz1
    refine ⟨_, rfl, by show 3 ≤ sizeLine; decide, fun pz2 nz2 => ?_⟩
    have dz2 := gz1.2.ne nz2
    generalize hX : upd Hz1 pz2 _ = Hz2
    have sz2 : Same Hz1 Hz2 := by
      rw [← hX]
      exact same_upd nz2
    have ez2 := (congrFun hX pz2).symm.trans upd_same
    clear hX
    have gz2 := gz1.same sz2
    refine ⟨by show 3 ≤ sizeLine; decide, fun pz3 nz3 => ?_⟩
    have dz3 := gz2.2.ne nz3
    generalize hX : upd Hz2 pz3 _ = Hz3
    have sz3 : Same Hz2 Hz3 := by
      rw [← hX]
      exact same_upd nz3
    have ez3 := (congrFun hX pz3).symm.trans upd_same
    clear hX
    have gz3 := gz2.same sz3
    refine ⟨by show 2 ≤ sizeLine; decide, fun pz4 nz4 => ?_⟩
    have dz4 := gz3.2.ne nz4
    generalize hX : upd Hz3 pz4 _ = Hz4
    have sz4 : Same Hz3 Hz4 := by
      rw [← hX]
      exact same_upd nz4
    have ez4 := (congrFun hX pz4).symm.trans upd_same
    clear hX
    have gz4 := gz3.same sz4
    refine ⟨by show 1 ≤ sizeLine; decide, fun pz5 nz5 => ?_⟩
    have dz5 := gz4.2.ne nz5
    generalize hX : upd Hz4 pz5 _ = Hz5
    have sz5 : Same Hz4 Hz5 := by
      rw [← hX]
      exact same_upd nz5
    have ez5 := (congrFun hX pz5).symm.trans upd_same
    clear hX
    have gz5 := gz4.same sz5
    refine ⟨_, rfl, by show 3 ≤ sizeLine; decide, fun pz6 nz6 => ?_⟩
    have dz6 := gz5.2.ne nz6
    generalize hX : upd Hz5 pz6 _ = Hz6
    have sz6 : Same Hz5 Hz6 := by
      rw [← hX]
      exact same_upd nz6
    have ez6 := (congrFun hX pz6).symm.trans upd_same
    clear hX
    have gz6 := gz5.same sz6
    refine ⟨_, rfl, by show 3 ≤ sizeLine; decide, fun pz7 nz7 => ?_⟩
    have dz7 := gz6.2.ne nz7
    generalize hX : upd Hz6 pz7 _ = Hz7
    have sz7 : Same Hz6 Hz7 := by
      rw [← hX]
      exact same_upd nz7
    have ez7 := (congrFun hX pz7).symm.trans upd_same
    clear hX
    have gz7 := gz6.same sz7
    refine ⟨by show 2 ≤ sizeLine; decide, fun pz8 nz8 => ?_⟩
    have dz8 := gz7.2.ne nz8
    generalize hX : upd Hz7 pz8 _ = Hz8
    have sz8 : Same Hz7 Hz8 := by
      rw [← hX]
      exact same_upd nz8
    have ez8 := (congrFun hX pz8).symm.trans upd_same
    clear hX
    have gz8 := gz7.same sz8
    have Tz8 := TK.refl Hz8
    have Tz7 := (TK.of sz8).trans Tz8
    have Tz6 := (TK.of sz7).trans Tz7
    have fz6 : SqT K Hz8 pz6 _ := Tz6.sqT (.inl (.inl ez6))
    have Tz5 := (TK.of sz6).trans Tz6
    have fz5 : SqT K Hz8 pz5 _ := Tz5.sqT (.inl (.inl ez5))
    have Tz4 := (TK.of sz5).trans Tz5
    have fz4 : SqT K Hz8 pz4 _ := Tz4.sqT (.inl (.inl ez4))
    have Tz3 := (TK.of sz4).trans Tz4
    have fz3 : SqT K Hz8 pz3 _ := Tz3.sqT (.inl (.inl ez3))
    have Tz2 := (TK.of sz3).trans Tz3
    have fz2 : SqT K Hz8 pz2 _ := Tz2.sqT (.inl (.inl ez2))
    have Tz1 := (TK.of sz2).trans Tz2
    have fz1 : SqT K Hz8 pz1 _ := Tz1.sqT (.inl (.inl ez1))
    have Tz0 := (TK.of sz1).trans Tz1
    obtain ⟨t1, l1⟩ := gt4 (tbU ["main", "loop", "twice"] [[], xO, xO]) []
    have l1 := l1.tk (t5.trans Tz0)
    obtain ⟨t2, l2⟩ := gl_call (ks := [false]) (us := [t1]) (c := 1) (d := 1) false (by decide +kernel) fz2 (.cons l1.dp .nil) (gives1 l1) 1 (by decide) (by decide +kernel)
    obtain ⟨t4, l4⟩ := row3 (tbU ["main", "loop", "twice"] [[], xO, xO])
    refine q _ pz8 pz7 2 [pz3, pz6, r3] [("main", [], t2), ("loop", xO, td), ("twice", xO, t4)] (tbU ["main", "loop", "twice"] [[], xO, xO]) gz8 ez8 (sz8 _ _ ez7) ?_ ?_ dz8 dz7
    · exact .cons (u := ("main", [], t2)) fz3 (.tup fz1 .nil) (l2.up (by decide) (by decide)) nilOk (show wordB ("main" : Str) = true by decide +kernel) (.cons (u := ("loop", xO, td)) fz6 (.tup fz5 (.cons (.tup fz4 (.cons (.str _) (.cons (.str _) .nil))) .nil)) ((ld.tk Tz0).up (by decide) (by decide)) xO_ok (show wordB ("loop" : Str) = true by decide +kernel) ((l4.tk (t5.trans Tz0)).row xO_ok (by decide +kernel) .nil))
    · exact framed_ok rfl (by decide +kernel) rfl (by decide) (by intro u hu; simp only [List.mem_cons, List.not_mem_nil, or_false] at hu; rcases hu with rfl | rfl | rfl; exact l2.good; exact ld.good; exact l4.good)
end
end FS
set_option Elab.async false
set_option linter.all false
set_option maxRecDepth 100000
set_option maxHeartbeats 4000000
namespace FS
open PySem PySem.Spec PyProof.Rows L2
section
variable {P : Program} {w : World} {K : PySem.W.Frag} {mg : Str → Option Value} {base : Heap}
abbrev N_law_plain : List Str := ["_law_sack_here"]
theorem sc_law_plain : FnScope N_law_plain ["_law_sack_here"] (defScope s_law_plain) := ⟨rfl, rfl, rfl, by decide +kernel, rfl, by decide +kernel, by decide +kernel⟩
theorem ok_l_plain {f : Addr} {fd : FuncData} (F : Fun K "_law_plain" "_law_plain" s_law_plain f fd) (T : Nm K mg) (Cl_deal : Cal P w K mg base 1 "_law_deal" ["_law_sack_here", "_law_size"] spCast) (Cl_framed : Cal P w K mg base 4 "_law_framed" ["_law_sack_here"] (spPlainK K [])) (Cl_wild : CalD P w K mg base 17 "_law_wild" ["_law_sack_here", "_law_least"] (spPlainK K [V.int 1]) [V.int 1]) : FnOk P w K mg base CX0 18 f fd ["_law_sack_here"] (spPlainK K []) := by
  have nd := sc_law_plain.nd
  refine F.ok sc_law_plain (fun vs H Q E h => ?_) (fun cdv A outer s H vs Q E hr h => ?_)
  · obtain ⟨D, rfl, d, q⟩ := h
    rfl
  · obtain ⟨D, rfl, d, q⟩ := h
    skip
    refine ⟨_, (pss_one (ps_ret (pe_ifExp (pt_cmpR op_eq (pe_own Cl_deal (hr.mono (by decide)) (by rfl) (pa_cons (pv 0) (pa_cons pe_int pa_nil))) pe_int (nomark _)) (pe_own Cl_framed (hr.mono (by decide)) (by rfl) (pa_cons (pv 0) pa_nil)) (pe_ownD Cl_wild (hr.mono (by decide)) (by rfl) (pa_cons (pv 0) pa_nil))))), ?_⟩

    refine ⟨_, rfl, D, 4, rfl, d, by omega, by omega, fun r H1 r0 r1 g1 _ => ⟨rfl, _, rfl, ?_⟩⟩
    generalize decide (V.int r = V.int 0) = b
    cases b with
    | true => exact iteT ⟨_, rfl, D, rfl, g1.2, fun H' p rl m rs us tb g h1 h2 h3 h4 h5 h6 => q H' p rl m rs us tb (g1.trans g) h1 h2 h3 h4 h5 h6⟩
    | false => exact iteF ⟨_, rfl, D, rfl, g1.2, fun H' p rl m rs us tb g h1 h2 h3 h4 h5 h6 => q H' p rl m rs us tb (g1.trans g) h1 h2 h3 h4 h5 h6⟩
end
end FS
set_option Elab.async false
set_option linter.all false
set_option maxRecDepth 100000
set_option maxHeartbeats 4000000
namespace FS
open PySem PySem.Spec PyProof.Rows L2
section
variable {P : Program} {w : World} {K : PySem.W.Frag} {mg : Str → Option Value} {base : Heap}
abbrev N_law_made : List Str := ["_law_plain_here", "_law_name", "_law_own", "_law_body"]
theorem sc_law_made : FnScope N_law_made ["_law_plain_here"] (defScope s_law_made) := ⟨rfl, rfl, rfl, by decide +kernel, rfl, by decide +kernel, by decide +kernel⟩
theorem ok_l_made {f : Addr} {fd : FuncData} (F : Fun K "_law_made" "_law_made" s_law_made f fd) (T : Nm K mg) {CP C CI : Addr} (B : Bad K mg CI) (PG : PgM P w K mg base CP C CI) (G : PrG P w K mg base C) : FnOk P w K mg base CX0 13 f fd ["_law_plain_here"] (spMadeK K CP C) := by
  have nd := sc_law_made.nd
  refine F.ok sc_law_made (fun vs H Q E h => ?_) (fun cdv A outer s H vs Q E hr h => ?_)
  · obtain ⟨pa, rl, m, tb, rs, us, rfl, ep, hp, rw0, okp, q⟩ := h
    rfl
  · obtain ⟨pa, rl, m, tb, rs, us, rfl, ep, hp, rw0, okp, q⟩ := h
    obtain ⟨mc, qo, fo, o1, o2, o3⟩ := PG.of_
    refine ⟨_, (pss_one (ps_ret (ClX.pe_cmeth (pe_glob (v := .ref CP) (by rfl) PG.c.gC rfl) o1 o2 o3 (hr.mono (by decide)) passL (pa_cons (pe_ix ix_list (pv 0) pe_int (fun _ _ => rfl)) (pa_cons (pe_callTy call_tuple_of (by rfl) T.b_tuple (by decide +kernel) (pa_cons (pe_lc (own := [("_law_name", 1), ("_law_own", 2), ("_law_body", 3)]) (g := gTup K 3 (gCons (gName 1) (gCons (gName 2) (gCons (gName 3) gNil)))) (tt := tYes) rfl nd (pi_list (pe_ix ix_list (pv 0) pe_int (fun _ _ => rfl))) (blkOk_by (own := [("_law_name", 1), ("_law_own", 2), ("_law_body", 3)]) (N := N_law_made) (sc := defScope s_law_made) (by decide +kernel)) (fun _ _ _ _ _ => (pg_tup rfl (pgs_cons (pg_name (i := 1) nd rfl (Or.inl rfl)) (pgs_cons (pg_name (i := 2) nd rfl (Or.inl rfl)) (pgs_cons (pg_name (i := 3) nd rfl (Or.inl rfl)) pgs_nil))))) (fun _ _ _ _ _ => pts_nil) (fun _ _ _ _ _ => (pe_mkPK G rfl rfl rfl rfl rfl (hr.mono (by decide)) (by rfl) (pa_cons (pv 1) (pa_cons (pv 2) (pa_cons (pv 3) pa_nil)))))) pa_nil)) pa_nil))))), ?_⟩

    have few := okp.few
    have lr := rw0.len
    refine ⟨rfl, _, rfl, pa, _, 0, _, rfl, rfl, .inl (.inl ep), rfl, _, rfl, pa, _, 1, _, rfl, rfl, .inl (.inl ep), rfl, rl, rfl, ⟨_, .inl (.inl hp)⟩, fun D nD => ?_⟩
    refine lc_list (xs := rs.map V.ref) (fun i H' => Same H H' ∧ ∃ vs, H' D = some (.lst vs) ∧ PsAtD K C H' D vs (us.take i) ∧ vs.length = i) ⟨same_upd nD, [], upd_same, .nil, rfl⟩ (fun i H' hi h => .inl (.inl (h.1 _ _ hp))) (fun i y H2 hy h => ?_) (fun H2 h => ?_)
    · obtain ⟨sm, vs, eD, pd, lv⟩ := h
      obtain ⟨r, ov, bv, u, rfl, hu, sr, dp, g, po, wd⟩ := (rw0.tk (.of sm)).at hy
      have li := (List.getElem?_eq_some_iff.mp hu).1
      refine ⟨r, _, rfl, sr, rfl, _, _, rfl, _, _, rfl, _, _, rfl, rfl, rfl, _, rfl, _, rfl, _, rfl, ?_⟩
      intro x dx nx nd' ne
      have s1 : Same H2 (upd (upd H2 dx (.own x)) x (.ins C dx [])) := fun b o e => by
        rw [upd_ne (ne_of_none e nx), upd_ne (ne_of_none e nd')]
        exact e
      refine ⟨x, dx, u.1, ov, bv, u.2.1, u.2.2, rfl, upd_same, wd, Dp.tk (.of s1) (pars_noL _) dp, Dp.tk (.of s1) (Tm.noL _) g.dp, po, g.good.good, g.kind, g.few, g.deep, fun H3 pa kp fr0 => ⟨rfl, ?_⟩⟩
      have s3 : Same H2 H3 := Same.made nx nd' fun b o e n => kp b o n e
      have fr := fun (D : Addr) o (hD : H2 D = some o) => fr0 D o (s1 _ _ hD) (ne_of_none hD nx)
      have eD3 := s3 _ _ eD
      refine ⟨vs, eD3, small1000 (by omega), Same.set (sm.trans s3) nD, vs ++ [.ref x], upd_same, ?_, ?_⟩
      · rw [take_more hu]
        exact ((pd.kp (.of s3) (.of s3)).kp .set (TK.set eD3 rfl)).app ((fr D _ eD).kp .set (TK.set eD3 rfl))
      · rw [List.length_append, lv]
        rfl
    · obtain ⟨sm, vs, eD, pd, lv⟩ := h
      rw [List.length_map, lr] at lv
      rw [List.length_map, lr, List.take_length] at pd
      refine ⟨D, vs, rfl, .inl ⟨.inl (.inl eD), fun l nl => ?_⟩⟩
      refine ⟨.int (m : Int), .ref l, some (m : Int), rfl, .int (m : Int), .inl ⟨l, D, vs, some us, rfl, .inl (.inl upd_same), .ps (pd.ps.same (same_upd nl)), by omega, fun i us' e1 e2 c H' a s' na pg => ?_, fun c => absurd (canB_ok okp) (by rw [c]; exact Bool.false_ne_true)⟩⟩
      cases e1
      cases e2
      exact q H' a vs (sm.trans ((same_upd nl).trans s')) (none_back (sm.trans (same_upd nl)) na) pg
end
end FS
set_option Elab.async false
set_option linter.all false
set_option maxRecDepth 100000
set_option maxHeartbeats 4000000
namespace FS
open PySem PySem.Spec PyProof.Rows L2
section
variable {P : Program} {w : World} {K : PySem.W.Frag} {mg : Str → Option Value} {base : Heap}
abbrev N_law_wild : List Str := ["_law_sack_here", "_law_least", "_law_modes", "_law_kinds", "_law_plan", "_law_name", "_law_procs", "_law_own"]
theorem sc_law_wild : FnScope N_law_wild ["_law_sack_here", "_law_least"] (defScope s_law_wild) := ⟨rfl, rfl, rfl, by decide +kernel, rfl, by decide +kernel, by decide +kernel⟩
theorem ok_l_wild {f : Addr} {fd : FuncData} (F : FunD K "_law_wild" "_law_wild" (defArgs s_law_wild) (defBody s_law_wild) (defScope s_law_wild) [V.int 1] [] f fd) (T : Nm K mg) (Cl_deal : Cal P w K mg base 1 "_law_deal" ["_law_sack_here", "_law_size"] spCast) (Cl_pick : Cal P w K mg base 2 "_law_pick" ["_law_sack_here", "_law_items"] (spPick K)) (Cl_term : Cal P w K mg base 16 "_law_term" ["_law_sack_here", "_law_plan", "_law_own", "_law_deep"] (spTermK K 3)) : FnOk P w K mg base CX0 17 f fd ["_law_sack_here", "_law_least"] (spPlainK K [V.int 1]) := by
  have nd := sc_law_wild.nd
  refine F.okN sc_law_wild (fun vs H Q E h => ?_) (fun cdv A outer s H vs Q E hr h => ?_)
  · obtain ⟨D, rfl, d, q⟩ := h
    rfl
  · obtain ⟨D, rfl, d, q⟩ := h
    skip
    refine ⟨_, (pss_cons (ps_set (i := 2) nd rfl (Or.inl rfl) (pe_callB (call_max2 rfl) (by rfl) T.b_max (by decide +kernel) (pa_cons (pv 1) (pa_cons (pe_own Cl_pick (hr.mono (by decide)) (by rfl) (pa_cons (pv 0) (pa_cons (pe_lst (pa_cons pe_int (pa_cons pe_int (pa_cons pe_int (pa_cons pe_int (pa_cons pe_int pa_nil)))))) pa_nil))) pa_nil))))
  (pss_cons (ps_set (i := 3) nd rfl (Or.inl rfl) (pe_lst (pa_cons (pe_tup (pa_cons pe_str pa_nil)) (pa_cons (pe_tup (pa_cons pe_str (pa_cons pe_str pa_nil))) (pa_cons (pe_tup (pa_cons pe_str pa_nil)) (pa_cons (pe_tup pa_nil) pa_nil))))))
  (pss_cons (ps_if (pt_cmpR op_lt (pv 2) pe_int (nomark _))
  (pss_one (ps_set (i := 3) nd rfl (Or.inl rfl) (pe_op op_cat (pv 3) (pe_lst (pa_cons (pe_tup (pa_cons pe_str pa_nil)) (pa_cons (pe_tup (pa_cons pe_str (pa_cons pe_str pa_nil))) (pa_cons (pe_tup (pa_cons pe_str (pa_cons pe_str pa_nil))) pa_nil)))))))
  pss_nil)
  (pss_cons (ps_set (i := 4) nd rfl (Or.inl rfl) (pe_disp (pps_cons pe_str (pv 2) (pps_cons pe_str pe_dnewK pps_nil)) rfl rfl (List.cons_ne_nil _ _) (Nat.le_of_ble_eq_true rfl)))
  (pss_cons (ps_for PassesOwn.never rfl (pi_list (pe_slice sl_list (pe_lst (pa_cons pe_str (pa_cons pe_str (pa_cons pe_str pa_nil)))) po_none (po_some (pe_op op_add pe_int (pe_own Cl_deal (hr.mono (by decide)) (by rfl) (pa_cons (pv 0) (pa_cons pe_int pa_nil))))))) (pg_name (i := 5) nd rfl (Or.inl rfl))
  (pss_one (ps_asg (pe_own Cl_pick (hr.mono (by decide)) (by rfl) (pa_cons (pv 0) (pa_cons (pv 3) pa_nil))) (pg_sub (pe_dget (u1 hr) (pv 4) pe_str (fun _ _ => rfl)) (pv 5) (set_dict (u1 hr))))))
  (pss_cons (ps_set (i := 6) nd rfl (Or.inl rfl) (pe_lst (pa_cons (pe_tup (pa_cons pe_str (pa_cons (pe_tup pa_nil) (pa_cons (pe_own Cl_term (hr.mono (by decide)) (by rfl) (pa_cons (pv 0) (pa_cons (pv 4) (pa_cons (pe_lst pa_nil) (pa_cons pe_int pa_nil))))) pa_nil)))) pa_nil)))
  (pss_cons (ps_for PassesOwn.never rfl (pi_list (pe_callB (call_sortedD rfl) (by rfl) T.b_sorted (by decide +kernel) (pa_cons (pe_dget (u1 hr) (pv 4) pe_str (fun _ _ => rfl)) pa_nil))) (pg_name (i := 5) nd rfl (Or.inl rfl))
  (pss_cons (ps_set (i := 7) nd rfl (Or.inl rfl) (pe_listZip rfl (pa_cons (pe_lst (pa_cons pe_str (pa_cons pe_str (pa_cons pe_str pa_nil)))) (pa_cons (pe_dget (u1 hr) (pe_dget (u1 hr) (pv 4) pe_str (fun _ _ => rfl)) (pv 5) (fun _ _ => rfl)) pa_nil)) (by rfl) T.b_list (by rfl) T.b_zip))
  (pss_one (ps_expr (pe_bm PySem.F.plainAttrs_list PySem.F.slot_list_append PySem.F.type_list_append mt_append (pv 6) (pa_cons (pe_tup (pa_cons (pv 5) (pa_cons (pe_callTy call_tuple_of (by rfl) T.b_tuple (by decide +kernel) (pa_cons (pv 7) pa_nil)) (pa_cons (pe_own Cl_term (hr.mono (by decide)) (by rfl) (pa_cons (pv 0) (pa_cons (pv 4) (pa_cons (pv 7) (pa_cons pe_int pa_nil))))) pa_nil)))) pa_nil))))))
  (pss_one (ps_ret (pe_lst (pa_cons (pv 2) (pa_cons (pv 6) pa_nil)))))))))))), ?_⟩

    refine seq_gen (P := fun σ' H1 => ∃ k : Nat, 1 ≤ k ∧ k ≤ 3 ∧ σ' = [some (.ref D), some (.int 1), some (.int (k : Int)), none, none, none, none, none] ∧ Go D H H1) (fun N hN => ?_) ?_
    · refine ⟨_, rfl, _, rfl, by show 5 ≤ sizeLine; decide, fun p1 n1 => ?_⟩
      have np := d.ne n1
      generalize hX : upd H p1 _ = H1
      have s1 : Same H H1 := by
        rw [← hX]
        exact same_upd n1
      have e1 := (congrFun hX p1).symm.trans upd_same
      clear hX
      have g1 : Go D H H1 := .of d s1
      refine ⟨D, p1, _, g1.2, rfl, .inl (.inl e1), np, (fun z => nomatch z), by show 5 < 1000; decide, fun v H2 hv g2 _ => ?_⟩
      have g := g1.trans g2
      simp only [List.mem_cons, List.not_mem_nil, or_false] at hv
      rcases hv with rfl | rfl | rfl | rfl | rfl
      · exact ⟨1, 2, rfl, hN _ _ ⟨2, by omega, by omega, rfl, g⟩⟩
      · exact ⟨1, 2, rfl, hN _ _ ⟨2, by omega, by omega, rfl, g⟩⟩
      · exact ⟨1, 1, rfl, hN _ _ ⟨1, by omega, by omega, rfl, g⟩⟩
      · exact ⟨1, 2, rfl, hN _ _ ⟨2, by omega, by omega, rfl, g⟩⟩
      · exact ⟨1, 3, rfl, hN _ _ ⟨3, by omega, by omega, rfl, g⟩⟩
    rintro _ H1 ⟨k, k1, k3, rfl, g1⟩
    refine seq_gen (P := fun σ' H2 => ∃ kl vs, σ' = [some (.ref D), some (.int 1), some (.int (k : Int)), some (.ref kl), none, none, none, none] ∧ Go D H H2 ∧ kl ≠ D ∧ H2 kl = some (.lst vs) ∧ KsL K H2 false vs ∧ vs ≠ [] ∧ vs.length ≤ 7) (fun N hN => ?_) ?_
    · refine ⟨by show 1 ≤ sizeLine; decide, fun p1 n1 => ?_⟩
      generalize hX : upd H1 p1 _ = A1
      have s1 : Same H1 A1 := by
        rw [← hX]
        exact same_upd n1
      have e1 := (congrFun hX p1).symm.trans upd_same
      clear hX
      refine ⟨by show 2 ≤ sizeLine; decide, fun p2 n2 => ?_⟩
      generalize hX : upd A1 p2 _ = A2
      have s2 : Same A1 A2 := by
        rw [← hX]
        exact same_upd n2
      have e2 := (congrFun hX p2).symm.trans upd_same
      clear hX
      refine ⟨by show 1 ≤ sizeLine; decide, fun p3 n3 => ?_⟩
      generalize hX : upd A2 p3 _ = A3
      have s3 : Same A2 A3 := by
        rw [← hX]
        exact same_upd n3
      have e3 := (congrFun hX p3).symm.trans upd_same
      clear hX
      refine ⟨by show 0 ≤ sizeLine; decide, fun p4 n4 => ?_⟩
      generalize hX : upd A3 p4 _ = A4
      have s4 : Same A3 A4 := by
        rw [← hX]
        exact same_upd n4
      have e4 := (congrFun hX p4).symm.trans upd_same
      clear hX
      refine ⟨by show 4 ≤ sizeLine; decide, fun p5 n5 => ?_⟩
      have np := ((((g1.same s1).same s2).same s3).same s4).2.ne n5
      generalize hX : upd A4 p5 _ = A5
      have s5 : Same A4 A5 := by
        rw [← hX]
        exact same_upd n5
      have e5 := (congrFun hX p5).symm.trans upd_same
      clear hX
      have f4 := s5 _ _ e4
      have f3 := (s4.trans s5) _ _ e3
      have f2 := (s3.trans (s4.trans s5)) _ _ e2
      have f1 := (s2.trans (s3.trans (s4.trans s5))) _ _ e1
      refine hN _ _ ⟨p5, _, rfl, g1.same (s1.trans (s2.trans (s3.trans (s4.trans s5)))), np, e5, fun v hv => ?_, (fun z => nomatch z), by show 4 ≤ 7; decide⟩
      simp only [List.mem_cons, List.not_mem_nil, or_false] at hv
      rcases hv with rfl | rfl | rfl | rfl
      · exact ⟨[false], .tup (.inl (.inl f1)) (.cons (.str _) .nil), by decide, fun _ b hb => by simpa using hb⟩
      · exact ⟨[false, false], .tup (.inl (.inl f2)) (.cons (.str _) (.cons (.str _) .nil)), by decide, fun _ b hb => by simpa using hb⟩
      · exact ⟨[false], .tup (.inl (.inl f3)) (.cons (.str _) .nil), by decide, fun _ b hb => by simpa using hb⟩
      · exact ⟨[], .tup (.inl (.inl f4)) .nil, by decide, fun _ b hb => nomatch hb⟩
    rintro _ H2 ⟨kl, vs, rfl, g2, nkl, ekl, ksl, vne, vlen⟩
    refine seq_gen (P := fun σ' H3 => ∃ kl vs, σ' = [some (.ref D), some (.int 1), some (.int (k : Int)), some (.ref kl), none, none, none, none] ∧ Go D H H3 ∧ kl ≠ D ∧ H3 kl = some (.lst vs) ∧ KsL K H3 (decide (k < 3)) vs ∧ vs ≠ [] ∧ vs.length ≤ 14) (fun N hN => ?_) ?_
    · refine ⟨_, rfl, _, _, rfl, rfl, _, rfl, ?_⟩
      by_cases kk : (k : Int) < 3
      · rw [decide_eq_true kk]
        refine iteT ?_
        refine ⟨_, rfl, by show 1 ≤ sizeLine; decide, fun p1 n1 => ?_⟩
        generalize hX : upd H2 p1 _ = A1
        have s1 : Same H2 A1 := by
          rw [← hX]
          exact same_upd n1
        have e1 := (congrFun hX p1).symm.trans upd_same
        clear hX
        refine ⟨by show 2 ≤ sizeLine; decide, fun p2 n2 => ?_⟩
        generalize hX : upd A1 p2 _ = A2
        have s2 : Same A1 A2 := by
          rw [← hX]
          exact same_upd n2
        have e2 := (congrFun hX p2).symm.trans upd_same
        clear hX
        refine ⟨by show 2 ≤ sizeLine; decide, fun p3 n3 => ?_⟩
        generalize hX : upd A2 p3 _ = A3
        have s3 : Same A2 A3 := by
          rw [← hX]
          exact same_upd n3
        have e3 := (congrFun hX p3).symm.trans upd_same
        clear hX
        refine ⟨by show 3 ≤ sizeLine; decide, fun p4 n4 => ?_⟩
        generalize hX : upd A3 p4 _ = A4
        have s4 : Same A3 A4 := by
          rw [← hX]
          exact same_upd n4
        have e4 := (congrFun hX p4).symm.trans upd_same
        clear hX
        refine ⟨kl, p4, _, _, rfl, rfl, s4 _ _ (s3 _ _ (s2 _ _ (s1 _ _ ekl))), e4, by rw [sizeLine_eq]; show vs.length + 3 ≤ _; omega, fun p5 n5 => ?_⟩
        have np := ((((g2.same s1).same s2).same s3).same s4).2.ne n5
        generalize hX : upd A4 p5 _ = A5
        have s5 : Same A4 A5 := by
          rw [← hX]
          exact same_upd n5
        have e5 := (congrFun hX p5).symm.trans upd_same
        clear hX
        have f3 := (s4.trans s5) _ _ e3
        have f2 := (s3.trans (s4.trans s5)) _ _ e2
        have f1 := (s2.trans (s3.trans (s4.trans s5))) _ _ e1
        have sA := s1.trans (s2.trans (s3.trans (s4.trans s5)))
        refine hN _ _ ⟨p5, _, rfl, g2.same sA, np, e5, fun v hv => ?_, (fun z => vne (List.append_eq_nil_iff.mp z).1), by rw [List.length_append]; show vs.length + 3 ≤ 14; omega⟩
        have k3' : decide (k < 3) = true := decide_eq_true (by omega)
        rw [k3']
        rcases List.mem_append.mp hv with hv | hv
        · obtain ⟨ks, h1, h2, h3⟩ := ksl v hv
          exact ⟨ks, Dp.tk (.of sA) (kindsD_noL _) h1, h2, fun z => nomatch z⟩
        · simp only [List.mem_cons, List.not_mem_nil, or_false] at hv
          rcases hv with rfl | rfl | rfl
          · exact ⟨[true], .tup (.inl (.inl f1)) (.cons (.str _) .nil), by decide, fun z => nomatch z⟩
          · exact ⟨[true, false], .tup (.inl (.inl f2)) (.cons (.str _) (.cons (.str _) .nil)), by decide, fun z => nomatch z⟩
          · exact ⟨[true, false], .tup (.inl (.inl f3)) (.cons (.str _) (.cons (.str _) .nil)), by decide, fun z => nomatch z⟩
      · rw [decide_eq_false kk]
        refine iteF (hN _ _ ⟨kl, vs, rfl, g2, nkl, ekl, ?_, vne, by omega⟩)
        rw [decide_eq_false (by omega : ¬ k < 3)]
        exact ksl
    clear ekl ksl vne vlen nkl g2
    rintro _ H3 ⟨kl, vs, rfl, g3, nkl, ekl, ksl, vne, vlen⟩
    refine seq_gen (P := fun σ' H4 => ∃ pl hd, σ' = [some (.ref D), some (.int 1), some (.int (k : Int)), some (.ref kl), some (.ref pl), none, none, none] ∧ Same H3 H4 ∧ H3 pl = none ∧ H3 hd = none ∧ H4 pl = some (.dK (planL (k : Int) hd)) ∧ H4 hd = some (.dK [])) (fun N hN => ?_) ?_
    · refine fun pl npl => ?_
      generalize hX : upd H3 pl _ = A1
      have s1 : Same H3 A1 := by
        rw [← hX]
        exact same_upd npl
      have e1 := (congrFun hX pl).symm.trans upd_same
      clear hX
      refine ⟨_, rfl, fun hd nhd => ?_⟩
      have nhd3 := Same.free s1 nhd
      generalize hX : upd A1 hd _ = A2
      have s2 : Same A1 A2 := by
        rw [← hX]
        exact same_upd nhd
      have e2 := (congrFun hX hd).symm.trans upd_same
      clear hX
      have f1 := s2 _ _ e1
      refine ⟨f1, [(Sum.inr "modes", .int (k : Int)), (Sum.inr "heads", .ref hd)], rfl, by show 2 ≤ 15; decide, ?_⟩
      have em : mergeK [] [((Sum.inr "modes" : Key), V.int (k : Int)), (Sum.inr "heads", .ref hd)] = planL (k : Int) hd := by rfl
      rw [em]
      have hp : hd ≠ pl := fun z => by rw [z, e1] at nhd; cases nhd
      refine hN _ _ ⟨pl, hd, rfl, Same.set (s1.trans s2) npl, npl, nhd3, upd_same, by rw [upd_ne hp]; exact e2⟩
    rintro _ H4 ⟨pl, hd, rfl, s4, npl, nhd, epl, ehd⟩
    have plD := g3.2.ne npl
    have hdD := g3.2.ne nhd
    have g4 := g3.same s4
    have ekl4 := s4 _ _ ekl
    have klp : kl ≠ pl := fun z => by rw [z, npl] at ekl; cases ekl
    have klh : kl ≠ hd := fun z => by rw [z, nhd] at ekl; cases ekl
    have plh : pl ≠ hd := fun z => by rw [z, ehd] at epl; cases epl
    have ksl4 : KsL K H4 (decide (k < 3)) vs := fun v hv => by
      obtain ⟨ks, h1, h2, h3⟩ := ksl v hv
      exact ⟨ks, Dp.tk (.of s4) (kindsD_noL _) h1, h2, h3⟩
    clear ksl ekl
    refine seq_gen (P := fun σ' H5 => ∃ x5 kvs hs, σ' = [some (.ref D), some (.int 1), some (.int (k : Int)), some (.ref kl), some (.ref pl), x5, none, none] ∧ Go D H H5 ∧ H5 pl = some (.dK (planL (k : Int) hd)) ∧ H5 hd = some (.dK kvs) ∧ HdV K H5 kvs hs ∧ HeadsW (k : Int) hs) (fun N hN => ?_) ?_
    · refine ⟨by show 3 ≤ sizeLine; decide, fun p1 n1 => ?_⟩
      have np1 := g4.2.ne n1
      generalize hX : upd H4 p1 _ = A1
      have s1 : Same H4 A1 := by
        rw [← hX]
        exact same_upd n1
      have e1 := (congrFun hX p1).symm.trans upd_same
      clear hX
      have g5 := g4.same s1
      refine no_part ?_
      refine ⟨_, rfl, D, 3, rfl, g5.2, by omega, by omega, fun r A2 r0 r1 ga _ => ⟨_, _, rfl, rfl, ?_⟩⟩
      obtain ⟨j, rfl⟩ : ∃ j : Nat, r = (j : Int) := ⟨r.toNat, by omega⟩
      have f1 := ga.1 _ _ np1 e1
      refine ⟨_, rfl, p1, _, rfl, .inl (.inl f1), fun p2 n2 => ?_⟩
      have np2 := ga.2.ne n2
      rw [show (1 : Int) + (j : Int) = ((1 + j : Nat) : Int) by omega, cut_take, show ([V.str "f", V.str "g", V.str "twice"] : List V) = (["f", "g", "twice"] : List Str).map V.str from rfl, take_str]
      generalize hX : upd A2 p2 _ = A3
      have s3 : Same A2 A3 := by
        rw [← hX]
        exact same_upd n2
      have e3 := (congrFun hX p2).symm.trans upd_same
      clear hX
      have gB := ((g5.trans ga).same s3)
      have tB : TK H4 A3 := ((TK.of s1).trans (ga.tk g5.2)).trans (.of s3)
      have npp : p2 ≠ pl := fun z => by
        have := ga.1 _ _ plD (s1 _ _ epl)
        rw [← z, n2] at this
        cases this
      have nph : p2 ≠ hd := fun z => by
        have := ga.1 _ _ hdD (s1 _ _ ehd)
        rw [← z, n2] at this
        cases this
      have epl1 := s3 _ _ (ga.1 _ _ plD (s1 _ _ epl))
      have ehd1 := s3 _ _ (ga.1 _ _ hdD (s1 _ _ ehd))
      have ekl1 := s3 _ _ (ga.1 _ _ nkl (s1 _ _ ekl4))
      have ndl : ((["f", "g", "twice"] : List Str).take (1 + j)).Nodup := (by decide +kernel : (["f", "g", "twice"] : List Str).Nodup).sublist (List.take_sublist _ _)
      have ll : ((["f", "g", "twice"] : List Str).take (1 + j)).length ≤ 3 := by rw [List.length_take]; exact Nat.min_le_right _ _
      generalize elw : (["f", "g", "twice"] : List Str).take (1 + j) = lw at e3 ndl ll ⊢
      refine ⟨p2, rfl, ⟨_, .inl (.inl e3)⟩, for_it (walk_list (xs := lw.map V.str)) (fun i σ' H' => ∃ x5 kvs hs, σ' = [some (.ref D), some (.int 1), some (.int (k : Int)), some (.ref kl), some (.ref pl), x5, none, none] ∧ Go D H H' ∧ H' p2 = some (.lst (lw.map V.str)) ∧ H' pl = some (.dK (planL (k : Int) hd)) ∧ H' hd = some (.dK kvs) ∧ H' kl = some (.lst vs) ∧ KsL K H' (decide (k < 3)) vs ∧ HdV K H' kvs hs ∧ hs.map (·.1) = lw.take i ∧ (∀ p ∈ hs, p.2.length ≤ 2) ∧ ((k : Int) = 3 → ∀ p ∈ hs, ∀ b ∈ p.2, b = false)) ⟨_, [], [], rfl, gB, e3, epl1, ehd1, ekl1, ksl4.tk tB, .nil, rfl, (fun _ h => nomatch h), (fun _ _ h => nomatch h)⟩ (fun i σ' H' _ h => ?_) (fun i x σ' H5 H5' hi h hy => ?_) (fun σ' H5 h => ?_)⟩
      · obtain ⟨x5, kvs, hs, -, -, h, -⟩ := h
        exact .inl (.inl h)
      · obtain ⟨x5, kvs, hs, rfl, gH, eh2, ep5, eh5, ek5, ks5, hv5, em5, h2, h3⟩ := h
        obtain ⟨rfl, hx⟩ := hy
        rw [List.getElem?_map] at hx
        obtain ⟨nm, hnm, rfl⟩ := Option.map_eq_some_iff.mp hx
        have li := (List.getElem?_eq_some_iff.mp hnm).1
        have lhs : hs.length = i := by
          have := congrArg List.length em5
          rw [List.length_map, List.length_take] at this
          omega
        refine ⟨_, rfl, _, rfl, D, kl, vs, gH.2, rfl, .inl (.inl ek5), nkl, vne, by omega, fun v G hv gG _ => ?_⟩
        obtain ⟨ks, dk, k2, kf⟩ := ks5 v hv
        have tG := gG.tk gH.2
        have ehG := gG.1 _ _ hdD eh5
        refine ⟨_, rfl, pl, _, rfl, plan_heads (gG.1 _ _ plD ep5), _, rfl, hd, _, rfl, DPut.k (k := Sum.inr nm) ehG (by rw [hv5.len]; exact small1000 (by omega)), ?_⟩
        have tS := TK.set (o' := .dK (putK kvs (Sum.inr nm) v)) ehG rfl
        refine ⟨_, _, hs ++ [(nm, ks)], rfl, (gH.trans gG).upd (g3.free nhd) hdD, ?_, ?_, upd_same, ?_, (ks5.tk tG).tk tS, ((hv5.tk tG).put (Dp.tk tG (kindsD_noL _) dk) (by rw [em5]; exact nd_take ndl hnm)).tk tS, ?_, mem_rows h2 k2, fun e => mem_rows (h3 e) (kf (decide_eq_false (by omega)))⟩
        · rw [upd_ne nph]; exact gG.1 _ _ np2 eh2
        · rw [upd_ne plh]; exact gG.1 _ _ plD ep5
        · rw [upd_ne klh]; exact gG.1 _ _ nkl ek5
        · rw [List.map_append, em5, take_more hnm]
          rfl
      · obtain ⟨x5, kvs, hs, rfl, gH, eh2, ep5, eh5, ek5, ks5, hv5, em5, h2, h3⟩ := h
        rw [List.length_map, List.take_length] at em5
        exact hN _ _ ⟨x5, kvs, hs, rfl, gH, ep5, eh5, hv5, ⟨1 + j, by omega, by omega, by rw [em5, elw]⟩, h2, h3⟩
    rintro _ H5 ⟨x5, kvs, hs, rfl, g5, ep5, eh5, hv5, hw⟩
    clear ksl4 ekl4 epl ehd g4 s4 klp klh
    have ha := hw.all
    have nd0 := hw.nd
    have ask : ∀ {G : Hp} {oa : Addr} {own : List (Str × Bool)} {ws : List V}, Go D H5 G → G oa = some (.lst ws) → DpAll K G ws (own.map parD) → oa ≠ D → ParOk own → AskP K G D pl oa (k : Int) (tbW hs) own hs := fun {G oa own ws} g e da ne po =>
      ⟨g.2, ⟨hd, kvs, g.1 _ _ plD ep5, g.1 _ _ hdD eh5, hv5.tk (g.tk g5.2), hdD⟩, plD, ⟨ws, e, da⟩, ne, hw.hok, nd0, ha.2.2.1, ha.2.2.2, po, by omega, by omega⟩
    refine seq_gen (P := fun σ' H6 => ∃ fa r t, σ' = [some (.ref D), some (.int 1), some (.int (k : Int)), some (.ref kl), some (.ref pl), x5, some (.ref fa), none] ∧ Go D H5 H6 ∧ H5 fa = none ∧ H6 fa = some (.lst [.ref r]) ∧ RowsT K H6 (k : Int) (tbW hs) 6 40 [r] [("main", [], t)]) (fun N hN => ?_) ?_
    · refine ⟨by show 0 ≤ sizeLine; decide, fun p1 n1 => ?_⟩
      generalize hX : upd H5 p1 _ = A1
      have s1 : Same H5 A1 := by
        rw [← hX]
        exact same_upd n1
      have e1 := (congrFun hX p1).symm.trans upd_same
      clear hX
      refine ⟨_, rfl, _, rfl, by show 0 ≤ sizeLine; decide, fun p2 n2 => ?_⟩
      have np2 := (g5.same s1).2.ne n2
      generalize hX : upd A1 p2 _ = A2
      have s2 : Same A1 A2 := by
        rw [← hX]
        exact same_upd n2
      have e2 := (congrFun hX p2).symm.trans upd_same
      clear hX
      have g7 : Go D H5 A2 := .of g5.2 (s1.trans s2)
      refine ⟨D, pl, p2, (k : Int), tbW hs, [], hs, 3, rfl, Int.le_refl _, ask g7 e2 .nil np2 ⟨Nat.zero_le _, (fun _ h => nomatch h), .nil⟩, fun bv A3 t g8 gt => ?_⟩
      refine ⟨by show 3 ≤ sizeLine; decide, fun r nr => ?_⟩
      generalize hX : upd A3 r _ = A4
      have s4 : Same A3 A4 := by
        rw [← hX]
        exact same_upd nr
      have e4 := (congrFun hX r).symm.trans upd_same
      clear hX
      refine ⟨by show 1 ≤ sizeLine; decide, fun fa nf => ?_⟩
      have nf5 := ((g7.trans g8).same s4).free nf
      generalize hX : upd A4 fa _ = A5
      have s5 : Same A4 A5 := by
        rw [← hX]
        exact same_upd nf
      have e5 := (congrFun hX fa).symm.trans upd_same
      clear hX
      have t1 := (g8.tk g7.2).trans (.of (s4.trans s5))
      have t2 := (TK.of (s4.trans s5))
      refine hN _ _ ⟨fa, r, t, rfl, (g7.trans g8).same (s4.trans s5), nf5, e5, ?_⟩
      exact .cons (u := ("main", [], t)) ((TK.of s5).sqT (.inl (.inl e4))) (.tup (t1.sqT (.inl (.inl (s2 _ _ e1)))) .nil) ((gt.tk t2).up (by decide) (by decide)) ⟨Nat.zero_le _, (fun _ h => nomatch h), .nil⟩ (show wordB ("main" : Str) = true by decide +kernel) .nil
    rintro _ H6 ⟨fa, r, t, rfl, g56, nfa, efa, rw6⟩
    have faD := g5.2.ne nfa
    have nfH := g5.free nfa
    have fpl : fa ≠ pl := fun z => by rw [z, ep5] at nfa; cases nfa
    have fhd : fa ≠ hd := fun z => by rw [z, eh5] at nfa; cases nfa
    refine ⟨_, rfl, pl, _, rfl, plan_heads (g56.1 _ _ plD ep5), hd, kvs, hs.map (·.1), rfl, .inl (g56.1 _ _ hdD eh5), hv5.keys, by rw [List.length_map]; have := ha.2.2.2; omega, fun ns p pm _ np => ?_⟩
    have npD := g56.2.ne np
    have np5 := g56.free np
    have np0 := (g5.trans g56).free np
    have nfp : p ≠ fa := fun z => by rw [z, efa] at np; cases np
    generalize hX : upd H6 p _ = H7
    have s7 : Same H6 H7 := by
      rw [← hX]
      exact same_upd np
    have e7 := (congrFun hX p).symm.trans upd_same
    clear hX
    have lns : ns.length ≤ 3 := by
      have := pm.length_eq
      rw [List.length_map] at this
      have := ha.2.2.2
      omega
    have g57 := g56.same s7
    refine ⟨p, rfl, ⟨_, .inl (.inl e7)⟩, for_it (walk_list (xs := ns.map V.str)) (fun i σ' H' => ∃ x5 x7 rs us, σ' = [some (.ref D), some (.int 1), some (.int (k : Int)), some (.ref kl), some (.ref pl), x5, some (.ref fa), x7] ∧ Go D H5 H' ∧ H' p = some (.lst (ns.map V.str)) ∧ H' fa = some (.lst (rs.map V.ref)) ∧ RowsT K H' (k : Int) (tbW hs) 6 40 rs us ∧ us.map (fun u => (u.1, u.2.1)) = (("main" : Str), []) :: (ns.take i).map (rowW hs)) ⟨_, _, [r], [("main", [], t)], rfl, g57, e7, s7 _ _ efa, rw6.tk (.of s7), rfl⟩ (fun i σ' H' _ h => ?_) (fun i x σ' G0 G0' hi h hy => ?_) (fun σ' G0 h => ?_)⟩
    · obtain ⟨x5, x7, rs, us, -, -, h, -⟩ := h
      exact .inl (.inl h)
    · obtain ⟨x5, x7, rs, us, rfl, gG, ep0, ef0, rw0, em⟩ := h
      obtain ⟨rfl, hx⟩ := hy
      rw [List.getElem?_map] at hx
      obtain ⟨nm, hnm, rfl⟩ := Option.map_eq_some_iff.mp hx
      have li := (List.getElem?_eq_some_iff.mp hnm).1
      obtain ⟨⟨nm0, ks⟩, hm, rfl⟩ := List.mem_map.mp (pm.mem_iff.mp (List.mem_of_getElem? hnm))
      have hnm : ns[i]? = some nm0 := hnm
      obtain ⟨wd, _, _⟩ := hw.hok _ _ hm
      refine seq_gen (P := fun σ' G1 => ∃ ga ws, σ' = [some (.ref D), some (.int 1), some (.int (k : Int)), some (.ref kl), some (.ref pl), some (.str nm0), some (.ref fa), some (.ref ga)] ∧ Same G0' G1 ∧ ga ≠ D ∧ G1 ga = some (.lst ws) ∧ DpAll K G1 ws ((ownW ks).map parD)) (fun N hN => ?_) ?_
      · refine ⟨by show 3 ≤ sizeLine; decide, fun p1 n1 => ?_⟩
        generalize hX : upd G0' p1 _ = A1
        have s1 : Same G0' A1 := by
          rw [← hX]
          exact same_upd n1
        have e1 := (congrFun hX p1).symm.trans upd_same
        clear hX
        obtain ⟨a, xs, dg1, sa, ra⟩ := head_get (s1 _ _ (gG.1 _ _ hdD eh5)) (hv5.tk ((gG.tk g5.2).trans (.of s1))) nd0 hm
        refine ⟨_, rfl, pl, _, rfl, plan_heads (s1 _ _ (gG.1 _ _ plD ep5)), _, rfl, hd, _, rfl, dg1, p1, a, _, xs, rfl, .inl (.inl e1), sa, fun A2 pL ts kp npL nts pts eL pr => ?_⟩
        have s2 : Same A1 A2 := kp
        refine hN _ _ ⟨pL, _, rfl, s1.trans s2, ?_, eL, own_dp lettW xs ks ts ra pr⟩
        exact (gG.same s1).2.ne npL
      rintro _ G1 ⟨ga, ws, rfl, s1, gaD, eg, dw⟩
      have gG1 := gG.same s1
      have ef1 := s1 _ _ ef0
      refine ⟨_, rfl, .inl ⟨rfl, _, .inl (.inl ef1)⟩, _, rfl, _, rfl, ga, ws, rfl, .inl ⟨.inl (.inl eg), fun pt nt => ?_⟩⟩
      generalize hX : upd G1 pt _ = G2
      have s2 : Same G1 G2 := by
        rw [← hX]
        exact same_upd nt
      have e2 := (congrFun hX pt).symm.trans upd_same
      clear hX
      have gG2 := gG1.same s2
      refine ⟨_, rfl, _, rfl, _, rfl, D, pl, ga, (k : Int), tbW hs, ownW ks, hs, 3, rfl, Int.le_refl _, ask gG2 (s2 _ _ eg) (DpAll.tk (.of s2) (pars_noL _) dw) gaD (ownW_ok ks), fun bv G3 t' g3' gt => ?_⟩
      have t23 := g3'.tk gG2.2
      refine ⟨by show 3 ≤ sizeLine; decide, fun p9 n9 => ?_⟩
      generalize hX : upd G3 p9 _ = G4
      have s4 : Same G3 G4 := by
        rw [← hX]
        exact same_upd n9
      have e4 := (congrFun hX p9).symm.trans upd_same
      clear hX
      have ef4 := s4 _ _ (g3'.1 _ _ faD (s2 _ _ ef1))
      have lr := rw0.len
      have lu : us.length ≤ 8 := by
        have := congrArg List.length em
        rw [List.length_map, List.length_cons, List.length_map, List.length_take] at this
        omega
      refine ⟨fa, _, _, rfl, rfl, ef4, by rw [List.length_map]; exact small1000 (by omega), ?_⟩
      have st := TK.set (o' := .lst (rs.map V.ref ++ [V.ref p9])) ef4 rfl
      have t24 := (t23.trans (.of s4)).trans st
      refine ⟨_, _, rs ++ [p9], us ++ [(nm0, ownW ks, t')], rfl, ((gG2.trans g3').same s4).upd nfa faD, ?_, by rw [upd_same, List.map_append]; rfl, (rw0.tk ((TK.of (s1.trans s2)).trans t24)).app ?_, ?_⟩
      · rw [upd_ne nfp]
        exact s4 _ _ (g3'.1 _ _ npD (s2 _ _ (s1 _ _ ep0)))
      · exact .cons (u := (nm0, ownW ks, t')) (st.sqT (.inl (.inl e4))) (.tup (t24.sqT (.inl (.inl e2))) (DpAll.tk ((TK.of s2).trans t24) (pars_noL _) dw)) ((gt.tk ((TK.of s4).trans st)).up (by decide) (by decide)) (ownW_ok ks) wd .nil
      · rw [List.map_append, em, take_more hnm, List.map_append]
        show _ = _ :: (_ ++ [rowW hs nm0])
        unfold rowW
        rw [lookH nd0 hm]
        rfl
    · obtain ⟨x5, x7, rs, us, rfl, gG, ep0, ef0, rw0, em⟩ := h
      rw [List.length_map, List.take_length] at em
      have ok := wild_ok hw (by omega) (by omega) pm em rw0
      refine ⟨_, rfl, _, rfl, by show 2 ≤ sizeLine; decide, fun pr nr => ?_⟩
      have s9 := same_upd (o := .lst [.int (k : Int), .ref fa]) nr
      have gE := (g5.trans gG).same s9
      exact q _ pr fa k rs us (tbW hs) gE upd_same (s9 _ _ ef0) (rw0.tk (.of s9)) ok ((g5.trans gG).2.ne nr) faD
end
end FS
set_option Elab.async false
set_option linter.all false
set_option maxRecDepth 100000
set_option maxHeartbeats 4000000
namespace FS
open PySem PySem.Spec PyProof.Rows L2
section
variable {P : Program} {w : World} {K : PySem.W.Frag} {mg : Str → Option Value} {base : Heap}
abbrev N_law_sack : List Str := ["_law_script", "_law_at", "_law_cell", "_law_great", "_law_seed"]
theorem sc_law_sack : FnScope N_law_sack ["_law_script", "_law_at"] (defScope s_law_sack) := ⟨rfl, rfl, rfl, by decide +kernel, rfl, by decide +kernel, by decide +kernel⟩
theorem ok_l_sack {f : Addr} {fd : FuncData} (F : Fun K "_law_sack" "_law_sack" s_law_sack f fd) (T : Nm K mg) : FnOk P w K mg base CX0 1 f fd ["_law_script", "_law_at"] (spNumbers K) := by
  have nd := sc_law_sack.nd
  refine F.ok sc_law_sack (fun vs H Q E h => ?_) (fun cdv A outer s H vs Q E hr h => ?_)
  · obtain ⟨a, ns, i, rfl, sq, hi, q⟩ := h
    rfl
  · obtain ⟨a, ns, i, rfl, sq, hi, q⟩ := h
    skip
    refine ⟨_, (pss_cons (ps_set (i := 2) nd rfl (Or.inl rfl) (pe_ifExp (pt_cmpR op_lt (pv 1) (pe_callB call_len (by rfl) T.b_len PySem.boot_len (pa_cons (pv 0) pa_nil)) (nomark _)) (pe_ix ix_list (pv 0) (pv 1) (fun _ _ => rfl)) (pe_op op_add (pe_op op_mul pe_int (pv 1)) pe_int)))
  (pss_cons (ps_set (i := 3) nd rfl (Or.inl rfl) (pe_op op_mod (pe_callTy call_int1 (by rfl) T.b_int (by decide +kernel) (pa_cons (pe_callB call_abs (by rfl) T.b_abs (by decide +kernel) (pa_cons (pv 2) pa_nil)) pa_nil)) (pe_op op_powW (pe_op op_pow pe_int pe_int) pe_int)))
  (pss_cons (ps_set (i := 4) nd rfl (Or.inl rfl) (pe_op op_add (pe_op op_add (pe_op op_add (pe_op op_mul (pe_op op_mod (pe_callTy call_int1 (by rfl) T.b_int (by decide +kernel) (pa_cons (pv 3) pa_nil)) pe_int) pe_int) (pe_op op_mul pe_int (pv 1))) (pe_op op_mul pe_int (pe_callTy call_int1 (by rfl) T.b_int (by decide +kernel) (pa_cons (pe_cmpR op_lt (pv 2) pe_int (nomark _)) pa_nil)))) pe_int))
  (pss_one (ps_ret (pe_lst (pa_cons (pe_callB (call_max2 rfl) (by rfl) T.b_max (by decide +kernel) (pa_cons pe_int (pa_cons (pe_op op_sub (pv 3) (pe_op op_pow pe_int pe_int)) pa_nil))) (pa_cons (pe_op op_mod (pe_callTy call_int1 (by rfl) T.b_int (by decide +kernel) (pa_cons (pv 4) pa_nil)) pe_int) (pa_cons pe_int pa_nil))))))))), ?_⟩

    refine ⟨_, rfl, _, rfl, _, _, rfl, .inl ⟨_, sq, rfl⟩, _, _, rfl, rfl, _, rfl, ite2 (fun e => ?A) (fun _ => ?B)⟩
    case' A =>
      have hl : i < ns.length := by
        have e1 := of_decide_eq_true e
        rw [List.length_map] at e1
        omega
      have g : (ns.map V.int)[i]? = some (.int ns[i]) := by
        rw [List.getElem?_map, List.getElem?_eq_getElem hl]
        rfl
      refine ⟨_, rfl, _, rfl, a, _, (i : Int), _, rfl, rfl, sq, atI_nat g, ?_⟩
      generalize ns[i] = c
    case' B =>
      refine ⟨_, rfl, _, _, rfl, rfl, .inl ⟨by decide, by decide⟩, _, _, rfl, rfl, ?_⟩
      generalize (101 : Int) * (i : Int) + 43 = c
    all_goals
      refine ⟨_, rfl, _, rfl, .inl ⟨_, rfl, ?_⟩⟩
      generalize (if c < 0 then -c else c) = c1
      refine ⟨_, _, rfl, rfl, ⟨by decide, by decide, by decide⟩, _, _, rfl, rfl, ⟨by decide, by decide +kernel⟩, ?_⟩
      refine ⟨_, _, rfl, rfl, Int.pow_pos (Int.pow_pos (by decide)), ?_⟩
      generalize c1 % _ = c2
      refine ⟨_, rfl, .inl ⟨_, rfl, ?_⟩⟩
      refine ⟨_, _, rfl, rfl, (by show (0:Int) < 2147483543; decide), ?_⟩
      generalize c2 % 2147483543 = c3
      refine ⟨_, _, rfl, rfl, .inr ⟨by decide, by decide⟩, ?_⟩
      refine ⟨_, rfl, _, _, rfl, rfl, .inl ⟨by decide, by decide⟩, ?_⟩
      refine ⟨_, _, rfl, rfl, ?_⟩
      refine ⟨_, rfl, _, _, rfl, rfl, .inr ⟨_, rfl, ?_⟩⟩
      refine ⟨_, _, rfl, rfl, .inl ⟨by decide, by decide⟩, _, _, rfl, rfl, _, _, rfl, rfl, ?_⟩
      refine ⟨_, rfl, _, _, rfl, rfl, ⟨by decide, by decide, by decide⟩, ?_⟩
      refine ⟨_, _, rfl, rfl, _, _, rfl, ?_⟩
      refine ⟨_, rfl, .inl ⟨_, rfl, ?_⟩⟩
      refine ⟨_, _, rfl, rfl, (by show (0:Int) < 2305843009213693921; decide), ?_⟩
      refine ⟨(by show 3 ≤ sizeLine; decide), fun p hp => q _ p (same_upd hp) hp ⟨_, _, _, upd_same⟩⟩
end
end FS
set_option Elab.async false
set_option linter.all false
set_option maxRecDepth 100000
set_option maxHeartbeats 4000000
namespace FS
open PySem PySem.Spec PyProof.Rows L2
section
variable {P : Program} {w : World} {K : PySem.W.Frag} {mg : Str → Option Value} {base : Heap}
abbrev N_law_deal : List Str := ["_law_sack_here", "_law_size", "_law_found", "_law_one", "_law_two"]
theorem sc_law_deal : FnScope N_law_deal ["_law_sack_here", "_law_size"] (defScope s_law_deal) := ⟨rfl, rfl, rfl, by decide +kernel, rfl, by decide +kernel, by decide +kernel⟩
theorem ok_l_deal {f : Addr} {fd : FuncData} (F : Fun K "_law_deal" "_law_deal" s_law_deal f fd) (T : Nm K mg) : FnOk P w K mg base CX0 1 f fd ["_law_sack_here", "_law_size"] (spCast) := by
  have nd := sc_law_deal.nd
  refine F.ok sc_law_deal (fun vs H Q E h => ?_) (fun cdv A outer s H vs Q E hr h => ?_)
  · obtain ⟨a, n, rfl, ⟨x, y, z, hd⟩, n0, n1, q⟩ := h
    rfl
  · obtain ⟨a, n, rfl, ⟨x, y, z, hd⟩, n0, n1, q⟩ := h
    skip
    refine ⟨_, (pss_cons (ps_if (pt_cmpR op_gt (pe_ix ix_list (pv 0) pe_int (fun _ _ => rfl)) pe_int (nomark _))
  (pss_cons (ps_set (i := 2) nd rfl (Or.inl rfl) (pe_op op_mod (pe_callTy call_int1 (by rfl) T.b_int (by decide +kernel) (pa_cons (pe_ix ix_list (pv 0) pe_int (fun _ _ => rfl)) pa_nil)) (pv 1)))
  (pss_cons (ps_asg (pe_op op_fdiv (pe_ix ix_list (pv 0) pe_int (fun _ _ => rfl)) (pv 1)) (pg_sub (pv 0) pe_int L2.set_list))
  (pss_one (ps_ret (pv 2)))))
  pss_nil)
  (pss_cons (ps_asg (pe_op op_add (pe_ix ix_list (pv 0) pe_int (fun _ _ => rfl)) pe_int) (pg_sub (pv 0) pe_int L2.set_list))
  (pss_cons (ps_set (i := 3) nd rfl (Or.inl rfl) (pe_op op_mod (pe_callTy call_int1 (by rfl) T.b_int (by decide +kernel) (pa_cons (pe_op op_add (pe_ix ix_list (pv 0) pe_int (fun _ _ => rfl)) (pe_op op_mul pe_int (pe_ix ix_list (pv 0) pe_int (fun _ _ => rfl)))) pa_nil)) pe_int))
  (pss_cons (ps_set (i := 4) nd rfl (Or.inl rfl) (pe_op op_add (pe_op op_mul (pe_op op_mod (pe_callTy call_int1 (by rfl) T.b_int (by decide +kernel) (pa_cons (pe_op op_mul (pv 3) (pv 3)) pa_nil)) pe_int) (pv 3)) (pe_op op_mul pe_int (pe_ix ix_list (pv 0) pe_int (fun _ _ => rfl)))))
  (pss_one (ps_ret (pe_op op_mod (pe_callTy call_int1 (by rfl) T.b_int (by decide +kernel) (pa_cons (pe_op op_fdiv (pe_op op_mod (pe_callTy call_int1 (by rfl) T.b_int (by decide +kernel) (pa_cons (pv 4) pa_nil)) pe_int) pe_int) pa_nil)) (pv 1)))))))), ?_⟩

    have sq : SqL K H a [.int x, .int y, .int z] := .inl (.inl hd)
    have a0 : ∀ {p q r : V}, atI [p, q, r] 0 = some p := atI_nat (j := 0) rfl
    have a1 : ∀ {p q r : V}, atI [p, q, r] 1 = some q := atI_nat (j := 1) rfl
    have a2 : ∀ {p q r : V}, atI [p, q, r] 2 = some r := atI_nat (j := 2) rfl
    refine ⟨_, rfl, a, _, 0, _, rfl, rfl, sq, a0, _, _, rfl, rfl, _, rfl, ite2 (fun _ => ?_) (fun _ => ?_)⟩
    · refine ⟨_, rfl, a, _, 0, _, rfl, rfl, sq, a0, .inl ⟨_, rfl, ?_⟩⟩
      refine ⟨_, rfl, _, _, rfl, rfl, n0, ?_⟩
      refine ⟨_, rfl, a, _, 0, _, rfl, rfl, sq, a0, _, rfl, _, _, rfl, rfl, ⟨n0, by omega⟩, ?_⟩
      refine ⟨_, rfl, a, _, 0, 0, rfl, rfl, hd, rfl, ?_⟩
      refine ⟨_, rfl, ?_⟩
      exact q _ _ (Int.emod_nonneg _ (by omega)) (Int.emod_lt_of_pos _ n0) Go.setDie (fun b hb => upd_ne hb)
    · refine ⟨_, rfl, a, _, 2, _, rfl, rfl, sq, a2, _, _, rfl, rfl, _, rfl, a, _, 2, 2, rfl, rfl, hd, rfl, ?_⟩
      have sq2 : SqL K (upd H a (.lst [.int x, .int y, .int (z + 1)])) a [.int x, .int y, .int (z + 1)] := .inl (.inl upd_same)
      refine ⟨_, rfl, a, _, 1, _, rfl, rfl, sq2, a1, _, rfl, a, _, 2, _, rfl, rfl, sq2, a2, _, _, rfl, rfl, .inl ⟨by decide, by decide⟩, _, _, rfl, rfl, .inl ⟨_, rfl, ?_⟩⟩
      refine ⟨_, _, rfl, rfl, by show (0:Int) < 2305843009213693951; decide, ?_⟩
      have b1 : (0:Int) ≤ (y + 1000273 * (z + 1)) % 2305843009213693951 := Int.emod_nonneg _ (by decide)
      have b2 : (y + 1000273 * (z + 1)) % 2305843009213693951 < 2305843009213693951 := Int.emod_lt_of_pos _ (by decide)
      generalize (y + 1000273 * (z + 1)) % 2305843009213693951 = o at b1 b2 ⊢
      refine ⟨_, rfl, _, rfl, _, _, rfl, rfl, .inl ⟨by omega, by omega⟩, .inl ⟨_, rfl, ?_⟩⟩
      refine ⟨_, _, rfl, rfl, by show (0:Int) < 2305843009213693907; decide, ?_⟩
      refine ⟨_, rfl, _, _, rfl, rfl, .inr ⟨by omega, by omega⟩, ?_⟩
      refine ⟨_, rfl, a, _, 2, _, rfl, rfl, sq2, a2, _, _, rfl, rfl, .inl ⟨by decide, by decide⟩, ?_⟩
      refine ⟨_, _, rfl, rfl, ?_⟩
      refine ⟨_, rfl, .inl ⟨_, rfl, ?_⟩⟩
      refine ⟨_, _, rfl, rfl, by show (0:Int) < 2305843009213693921; decide, ?_⟩
      refine ⟨_, _, rfl, rfl, by constructor <;> decide, .inl ⟨_, rfl, ?_⟩⟩
      refine ⟨_, rfl, _, _, rfl, rfl, n0, ?_⟩
      exact q _ _ (Int.emod_nonneg _ (by omega)) (Int.emod_lt_of_pos _ n0) Go.setDie (fun b hb => upd_ne hb)
end
end FS
set_option Elab.async false
set_option linter.all false
set_option maxRecDepth 100000
set_option maxHeartbeats 4000000
namespace FS
open PySem PySem.Spec PyProof.Rows L2
section
variable {P : Program} {w : World} {K : PySem.W.Frag} {mg : Str → Option Value} {base : Heap}
abbrev NProgrammodes : List Str := ["self"]
theorem scProgrammodes : FnScope NProgrammodes ["self"] (defScope sProgrammodes) := ⟨rfl, rfl, rfl, by decide +kernel, rfl, by decide +kernel, by decide +kernel⟩
theorem ok_Programmodes {f : Addr} {fd : FuncData} (F : Fun K "modes" "Program.modes" sProgrammodes f fd) (T : Nm K mg) {C : Addr} (PC : PgC K mg C) : FnOk P w K mg base CX0 1 f fd ["self"] (spGet K C "_modes") := by
  have nd := scProgrammodes.nd
  refine F.ok scProgrammodes (fun vs H Q E h => ?_) (fun cdv A outer s H vs Q E hr h => ?_)
  · obtain ⟨a, dx, fs, v, rfl, ha, lk, q⟩ := h
    rfl
  · obtain ⟨a, dx, fs, v, rfl, ha, lk, q⟩ := h
    skip
    refine ⟨_, (pss_one (ps_ret (pe_fld (pv 0) rfl))), ?_⟩

    exact ⟨_, rfl, a, C, dx, fs, v, rfl, ha, PC.cl, PC.a1, lk, q⟩
end
end FS
set_option Elab.async false
set_option linter.all false
set_option maxRecDepth 100000
set_option maxHeartbeats 4000000
namespace FS
open PySem PySem.Spec PyProof.Rows L2
section
variable {P : Program} {w : World} {K : PySem.W.Frag} {mg : Str → Option Value} {base : Heap}
abbrev NProgramprocedures : List Str := ["self"]
theorem scProgramprocedures : FnScope NProgramprocedures ["self"] (defScope sProgramprocedures) := ⟨rfl, rfl, rfl, by decide +kernel, rfl, by decide +kernel, by decide +kernel⟩
theorem ok_Programprocedures {f : Addr} {fd : FuncData} (F : Fun K "procedures" "Program.procedures" sProgramprocedures f fd) (T : Nm K mg) {C : Addr} (PC : PgC K mg C) : FnOk P w K mg base CX0 1 f fd ["self"] (spGet K C "_procedures") := by
  have nd := scProgramprocedures.nd
  refine F.ok scProgramprocedures (fun vs H Q E h => ?_) (fun cdv A outer s H vs Q E hr h => ?_)
  · obtain ⟨a, dx, fs, v, rfl, ha, lk, q⟩ := h
    rfl
  · obtain ⟨a, dx, fs, v, rfl, ha, lk, q⟩ := h
    skip
    refine ⟨_, (pss_one (ps_ret (pe_fld (pv 0) rfl))), ?_⟩

    exact ⟨_, rfl, a, C, dx, fs, v, rfl, ha, PC.cl, PC.a2, lk, q⟩
end
end FS
set_option Elab.async false
set_option linter.all false
set_option maxRecDepth 100000
set_option maxHeartbeats 4000000
/-! one relation after another one -/
set_option Elab.async false
set_option linter.all false
set_option maxRecDepth 100000
set_option maxHeartbeats 4000000
/-! tables -/
namespace SQ
open PySem PySem.Spec PyProof.Rows L2
abbrev tbV (xs : List Nat) : List V := xs.map fun n : Nat => V.int (n : Int)
def tf (xs : List Nat) : Nat → Nat := fun r => xs.getD r 0
structure Tb (K : PySem.W.Frag) (H : Hp) (p : Addr) (k : Nat) (xs : List Nat) : Prop where
  sq : SqT K H p (tbV xs)
  len : xs.length = 2 ^ k
  lt : ∀ x ∈ xs, x < 2 ^ k
theorem Tb.same {K : PySem.W.Frag} {H H' : Hp} {p : Addr} {k : Nat} {xs : List Nat} (t : Tb K H p k xs) (s : Same H H') : Tb K H' p k xs := ⟨Same.sqT s t.sq, t.len, t.lt⟩
theorem Tb.go {K : PySem.W.Frag} {H H' : Hp} {p a : Addr} {k : Nat} {xs : List Nat} (t : Tb K H p k xs) (d : Die H a) (g : Go a H H') : Tb K H' p k xs := ⟨Go.sqT d g t.sq, t.len, t.lt⟩
theorem Tb.at {K : PySem.W.Frag} {H : Hp} {p : Addr} {k : Nat} {xs : List Nat} (t : Tb K H p k xs) {r : Nat} (h : r < 2 ^ k) : (tbV xs)[r]? = some (V.int (tf xs r : Nat)) ∧ tf xs r < 2 ^ k := by
  have hl : r < xs.length := by rw [t.len]; exact h
  have e : tf xs r = xs[r] := by
    unfold tf
    rw [List.getD_eq_getElem?_getD, List.getElem?_eq_getElem hl]
    rfl
  rw [e]
  refine ⟨?_, t.lt _ (List.getElem_mem hl)⟩
  rw [List.getElem?_map, List.getElem?_eq_getElem hl]
  rfl
/-- None, a bool, a whole number -/
def Atm (x : V) : Prop := x = .non ∨ (∃ b, x = .bl b) ∨ ∃ i, x = .int i
/-- what is no tuple -/
inductive NoT (H : Hp) : V → Prop
  | non : NoT H .non
  | int (i : Int) : NoT H (.int i)
  | lst {p : Addr} {xs : List V} (e : H p = some (.lst xs)) : NoT H (.ref p)
  | dct {p : Addr} {kvs : List (Key × V)} (e : H p = some (.dK kvs)) : NoT H (.ref p)
  | str (z : Str) : NoT H (.str z)
end SQ
namespace SQ
open PySem PySem.Spec PyProof.Rows L2
theorem Al.get {α : Type} {Φ : α → V → Prop} {ms : List α} {ys : List V} (a : Al Φ ms ys) : ∀ {i : Nat} {m : α}, ms[i]? = some m → ∃ y, ys[i]? = some y ∧ Φ m y := by
  induction a with
  | nil => intro i m h; cases i <;> cases h
  | cons h _ ih =>
    intro i m e
    cases i with
    | zero => cases e; exact ⟨_, rfl, h⟩
    | succ i => exact ih (i := i) e
/-- a list of pairs, at an address -/
def LsAt (K : PySem.W.Frag) (H : Hp) (e r : Nat) (y : V) : Prop := ∃ l ks, y = .ref l ∧ H l = some (.lst (refs ks)) ∧ Prs K H ks ∧ prsOf ks = prs e r
theorem LsAt.same {K : PySem.W.Frag} {H H' : Hp} {e r : Nat} {y : V} (h : LsAt K H e r y) (s : Same H H') : LsAt K H' e r y := by
  obtain ⟨l, ks, rfl, h1, h2, h3⟩ := h
  exact ⟨l, ks, rfl, s _ _ h1, Prs.same h2 s, h3⟩
end SQ
namespace SQ
open PySem PySem.Spec PyProof.Rows L2
/-- a value that is no table -/
def Odd (K : PySem.W.Frag) (a : Addr) (N : Nat) (H : Hp) (v : V) : Prop := (∃ t xs, v = .ref t ∧ SqT K H t xs ∧ (∀ x ∈ xs, Atm x) ∧ xs.length ≤ 5000 ∧ (decide (xs.length = N) && xs.all (inB 0 ((N : Nat) - 1))) = false) ∨ (NoT H v ∧ ∀ p, v = .ref p → p ≠ a)
theorem Odd.go {K : PySem.W.Frag} {a : Addr} {N : Nat} {H H' : Hp} {v : V} (o : Odd K a N H v) (d : Die H a) (g : Go a H H') : Odd K a N H' v := by
  rcases o with ⟨t, xs, rfl, h1, h2⟩ | ⟨h, n⟩
  · exact .inl ⟨t, xs, rfl, Go.sqT d g h1, h2⟩
  · refine .inr ⟨?_, n⟩
    cases h with
    | non => exact .non
    | int i => exact .int i
    | str z => exact .str z
    | lst e => exact .lst (g.1 _ _ (n _ rfl) e)
    | dct e => exact .dct (g.1 _ _ (n _ rfl) e)
theorem Odd.same {K : PySem.W.Frag} {a : Addr} {N : Nat} {H H' : Hp} {v : V} (o : Odd K a N H v) (g : Same H H') : Odd K a N H' v := by
  rcases o with ⟨t, xs, rfl, h1, h2⟩ | ⟨h, n⟩
  · exact .inl ⟨t, xs, rfl, Same.sqT g h1, h2⟩
  · refine .inr ⟨?_, n⟩
    cases h with
    | non => exact .non
    | int i => exact .int i
    | str z => exact .str z
    | lst e => exact .lst (g _ _ e)
    | dct e => exact .dct (g _ _ e)
/-! tables as data -/
end SQ
set_option Elab.async false
set_option linter.all false
set_option maxRecDepth 100000
set_option maxHeartbeats 4000000
/-! enumerate(a tuple) -/
set_option Elab.async false
set_option linter.all false
namespace SQ
open PySem PySem.Spec PyProof.Rows L2
def topS (i : Nat) : Stmt := PySem.Challenge.pw_blockshanded_k28_contexts_judged.main.body.getD i (.Pass ⟨0, 0, 0, 0⟩)
abbrev sis_integer_in : Stmt := topS 2
abbrev ssame_of : Stmt := topS 50
abbrev sSpace : Stmt := topS 52
abbrev sSpace__init__ : Stmt := inClass sSpace 0
end SQ
set_option Elab.async false
set_option linter.all false
set_option maxRecDepth 100000
set_option maxHeartbeats 4000000
namespace SQ
open PySem PySem.Spec PyProof.Rows L2
section
variable {P : Program} {w : World} {K : PySem.W.Frag} {mg : Str → Option Value} {base : Heap}
abbrev NSpace__init__ : List Str := ["self", "modes", "watched"]
theorem scSpace__init__ : FnScope NSpace__init__ ["self", "modes", "watched"] (defScope sSpace__init__) := ⟨rfl, rfl, rfl, by decide +kernel, rfl, by decide +kernel, by decide +kernel⟩
theorem ok_Space__init__ {f : Addr} {fd : FuncData} (F : FunD K "__init__" "Space.__init__" (defArgs sSpace__init__) (defBody sSpace__init__) (defScope sSpace__init__) [] [("watched", .bl false)] f fd) (T : Nm mg) {C : Addr} (PC : SpC K mg C) (Cis_integer_in : Cal P w K mg base 2 "is_integer_in" ["value", "least", "greatest"] (spIntIn K)) (Csame_of : Cal P w K mg base 1 "same_of" ["modes", "ends"] spSame) : FnOk P w K mg base CX0 3 f fd ["self", "modes", "watched"] (spInit C) := by
  have nd := scSpace__init__.nd
  refine F.ok scSpace__init__ (fun vs H Q E h => ?_) (fun cdv A outer s H vs Q E hr h => ?_)
  · obtain ⟨p, dx, m, b, rfl, hp, m1, m3, q⟩ := h
    rfl
  · obtain ⟨p, dx, m, b, rfl, hp, m1, m3, q⟩ := h
    obtain ⟨t3, g3⟩ := T.g_MAX_MODES
    refine ⟨_, (pss_cons (ps_if (pt_not (pt_val (pe_own Cis_integer_in (hr.mono (by decide)) (by rfl) (pa_cons (pv 1) (pa_cons pe_int (pa_cons (pe_glob (v := .int 3) (by rfl) g3 ⟨_, rfl⟩) pa_nil))))))
  (pss_one ps_never)
  pss_nil)
  (pss_cons (ps_if (pt_not (pt_val (pe_callB call_isi (by rfl) T.b_isinstance (by decide +kernel) (pa_cons (pv 2) (pa_cons (pe_bltn (v := .ty "bool") (by rfl) T.b_bool (by decide +kernel) rfl) pa_nil)))))
  (pss_one ps_never)
  pss_nil)
  (pss_cons (ps_fld (pv 0) (pv 1) rfl)
  (pss_cons (ps_fld (pv 0) (pv 2) rfl)
  (pss_cons (ps_fld (pv 0) (pe_ifExp (pt_val (pv 2)) (pe_op op_addN (pv 1) pe_int) (pv 1)) rfl)
  (pss_cons (ps_fld (pv 0) (pe_op op_shlNN pe_int (pe_op op_mulN (pv 1) (pe_fld (pv 0) rfl))) rfl)
  (pss_one (ps_fld (pv 0) (pe_own Csame_of (hr.mono (by decide)) (by rfl) (pa_cons (pv 1) (pa_cons (pe_fld (pv 0) rfl) pa_nil))) rfl)))))))), ?_⟩

    have hb : inB 1 3 (.int (m : Int)) = true := by
      show (decide ((1 : Int) ≤ (m : Int)) && decide ((m : Int) ≤ 3)) = true
      rw [decide_eq_true (by omega), decide_eq_true (by omega)]
      rfl
    refine ⟨_, rfl, .int (m : Int), 1, 3, rfl, .int _, ?_⟩
    rw [hb]
    refine ⟨_, rfl, iteF ?_⟩
    refine ⟨_, rfl, _, _, _, _, true, rfl, .ty "bool", .base (.bl b), kit_ty (show kitB "bool" "bool" = some true by decide +kernel), true, rfl, iteF ?_⟩
    have fin : ∀ {H0 H' H'' : Hp} {fs : List (Str × V)} {y : V} {g : Str}, (∀ c o, c ≠ p → H0 c = some o → H' c = some o) → upd H' p (.ins C dx (putF g y fs)) = H'' → (∀ c o, c ≠ p → H0 c = some o → H'' c = some o) ∧ H'' p = some (.ins C dx (putF g y fs)) := fun k h => by
      subst h
      exact ⟨fun c o n e => by rw [upd_ne n]; exact k c o n e, upd_same⟩
    have k0 : ∀ c o, c ≠ p → H c = some o → H c = some o := fun _ _ _ e => e
    refine ⟨_, rfl, _, rfl, p, C, dx, [], rfl, hp, PC.cl, PC.a1, by show 0 < 1000; decide, ?_⟩
    generalize hh : upd H p _ = H1
    obtain ⟨k1, e1⟩ := fin k0 hh
    clear hh k0
    refine ⟨_, rfl, _, rfl, p, C, dx, _, rfl, e1, PC.cl, PC.a2, by show 1 < 1000; decide, ?_⟩
    rw [show putF "_modes" (V.int (m : Int)) [] = [(("_modes" : Str), V.int (m : Int))] from rfl, pf2]
    obtain ⟨k2, e2⟩ := fin (g := "_watched") (y := .bl b) (fs := [("_modes", V.int (m : Int))]) k1 rfl
    rw [pf2] at k2 e2
    generalize upd H1 p _ = H2 at k2 e2 ⊢
    clear k1 e1
    refine ⟨_, rfl, _, rfl, ?_⟩
    have goal : ∀ z : Nat, z = en m b → ∀ G : Prop, (∀ H3, (∀ c o, c ≠ p → H c = some o → H3 c = some o) → H3 p = some (.ins C dx [("_modes", V.int (m : Int)), ("_watched", V.bl b), ("_ends", V.int (z : Int))]) → H3 = upd H2 p (.ins C dx [("_modes", V.int (m : Int)), ("_watched", V.bl b), ("_ends", V.int (z : Int))]) → G) → G := fun z _ G h => by
      obtain ⟨k3, e3⟩ := fin (g := "_ends") (y := V.int (z : Int)) (fs := [("_modes", V.int (m : Int)), ("_watched", V.bl b)]) k2 rfl
      rw [pf3] at k3 e3
      exact h _ k3 e3 rfl
    have big := men_le (b := b) ⟨m1, m3⟩
    have enl := en_le (b := b) ⟨m1, m3⟩
    cases b
    case' true => refine iteT ⟨_, rfl, m, 1, rfl, rfl, ?_⟩
    case' false => refine iteF ⟨_, rfl, ?_⟩
    all_goals
      refine ⟨_, rfl, p, C, dx, _, rfl, e2, PC.cl, PC.a3, by show 2 < 1000; decide, ?_⟩
      rw [pf3]
      first
        | (refine goal (m + 1) rfl _ fun H3 k3 e3 eq => ?_
           rw [← eq])
        | (refine goal m rfl _ fun H3 k3 e3 eq => ?_
           rw [← eq])
      clear eq k2 e2 goal
      refine ⟨_, rfl, _, rfl, p, C, dx, _, _, rfl, e3, PC.cl, PC.a3, lkm1, m, _, rfl, rfl, by omega, 1, _, rfl, rfl, by decide, Nat.le_trans big (by decide), ?_⟩
      refine ⟨_, rfl, p, C, dx, _, rfl, e3, PC.cl, PC.a4, by show 3 < 1000; decide, ?_⟩
      rw [pf4, Nat.one_mul]
      generalize hh : upd H3 p _ = H4
      have e4 := (congrFun hh p).symm.trans upd_same
      have k4 : ∀ c o, c ≠ p → H c = some o → H4 c = some o := fun c o n e => by
        rw [← hh, upd_ne n]
        exact k3 c o n e
      clear hh
      refine ⟨_, rfl, _, rfl, p, C, dx, _, _, rfl, e4, PC.cl, PC.a3, lkm2, m, _, rfl, m3, enl.2, fun H5 s5 => ?_⟩
      have e5 := s5 _ _ e4
      refine ⟨_, rfl, p, C, dx, _, rfl, e5, PC.cl, PC.a5, by show 4 < 1000; decide, ?_⟩
      rw [pf5]
      generalize hh : upd H5 p _ = H6
      have e6 := (congrFun hh p).symm.trans upd_same
      refine q H6 (fun c o n e => ?_) e6
      rw [← hh, upd_ne n]
      exact s5 _ _ (k4 c o n e)
end
end SQ
set_option Elab.async false
set_option linter.all false
set_option maxRecDepth 100000
set_option maxHeartbeats 4000000
namespace SQ
open PySem PySem.Spec PyProof.Rows L2
theorem init_binds {K : PySem.W.Frag} {f : Addr} {fd : FuncData} (F : FunD K "__init__" "Space.__init__" (defArgs sSpace__init__) (defBody sSpace__init__) (defScope sSpace__init__) [] [("watched", .bl false)] f fd) :
    (∃ ds, Vals [V.bl false] ds ∧ Binds K fd ["self", "modes", "watched"] ds) ∧ KBn K fd ["self", "modes", "watched"] 2 ["watched"] (fun us ws => us ++ ws) (fun vs zs => vs ++ zs) := by
  refine ⟨?_, ?_⟩
  · exact F.binds0 (ps := ["self", "modes", "watched"]) 2 (List.cons_ne_nil _ _) rfl fun D doc pm an cdv ct us ks h1 h2 => match us, h1, ks, h2 with
      | [_, _], _, [_], _ => ⟨_, _, _, _, _, _, rfl, rfl, rfl⟩
  · obtain ⟨oc, od, dV, kV, doc, pm, an, cdv, ct, osl, rfl, lk, hcd, hD, hK⟩ := F.ex
    rcases hD with ⟨_, rfl⟩ | ⟨e, _⟩
    · exact ⟨fun s us ws X l1 l2 => match us, l1, ws, l2 with
        | [_, _], _, [_], _ => .of_eq rfl, fun r1 r2 => r1.append r2⟩
    · exact absurd rfl e
end SQ
set_option Elab.async false
set_option linter.all false
set_option maxRecDepth 100000
set_option maxHeartbeats 4000000
namespace SQ
open PySem PySem.Spec PyProof.Rows L2
section
variable {P : Program} {w : World} {K : PySem.W.Frag} {mg : Str → Option Value} {base : Heap}
abbrev Nsame_of : List Str := ["modes", "ends", "mode"]
theorem scsame_of : FnScope Nsame_of ["modes", "ends"] (defScope ssame_of) := ⟨rfl, rfl, rfl, by decide +kernel, rfl, by decide +kernel, by decide +kernel⟩
theorem ok_same_of {f : Addr} {fd : FuncData} (F : Fun K "same_of" "same_of" ssame_of f fd) (T : Nm mg) : FnOk P w K mg base CX0 1 f fd ["modes", "ends"] (spSame) := by
  have nd := scsame_of.nd
  refine F.ok scsame_of (fun vs H Q E h => ?_) (fun cdv A outer s H vs Q E hr h => ?_)
  · obtain ⟨m, e, rfl, hm, he, q⟩ := h
    rfl
  · obtain ⟨m, e, rfl, hm, he, q⟩ := h
    skip
    refine ⟨_, (pss_one (ps_ret (pe_callB (cr_sum rfl) (by rfl) T.b_sum (by decide +kernel) (pa_cons (pe_lc (own := [("mode", 2)]) (g := gName 2) (tt := tYes) rfl nd (pi_range1 rfl T.b_range (pa_cons (pv 0) pa_nil)) (blkOk_by (own := [("mode", 2)]) (N := Nsame_of) (sc := defScope ssame_of) (by decide +kernel)) (fun _ _ _ _ _ => (pg_name (i := 2) nd rfl (Or.inl rfl))) (fun _ _ _ _ _ => pts_nil) (fun _ _ _ _ _ => (pe_op op_shlNN pe_int (pe_op op_addN (pe_op op_mulN (pv 2) (pv 1)) (pv 2))))) pa_nil)))), ?_⟩

    refine ⟨_, rfl, _, rfl, by omega, by omega, fun D nD => ?_⟩
    refine lcR (n := m) (fun _ => true) (fun i y _ => y = .int ((2 ^ (i * e + i) : Nat) : Int)) (Rg.same nD) (fun _ _ _ _ _ _ h => h) (fun _ _ _ _ _ _ h => h) (by omega) (fun i H1 Ok No hi s1 _ ok _ => ?_) (fun H1 ys s1 e1 al => ?_)
    · have h3 : i * e ≤ 3 * 4 := Nat.mul_le_mul (by omega) he
      refine ⟨rfl, _, rfl, _, rfl, i, e, rfl, rfl, by omega, ?_⟩
      refine ⟨_, rfl, i * e, i, rfl, rfl, 1, i * e + i, rfl, rfl, by decide, by omega, ok rfl _ _ Same.rfl ?_⟩
      rw [Nat.one_mul]
    · have e2 := al.map
      rw [List.filter_eq_self.mpr (fun _ _ => rfl)] at e2
      refine ⟨D, (List.range m).map fun i => ((2 ^ (i * e + i) : Nat) : Int), rfl, .inl (.inl ?_), ?_⟩
      · rw [e1, e2, List.map_map]
        rfl
      · have h2 : ((List.range m).map fun i => ((2 ^ (i * e + i) : Nat) : Int)).sum = ((sameN m e : Nat) : Int) := same_sum m e
        rw [h2]
        exact q H1 s1
end
end SQ
set_option Elab.async false
set_option linter.all false
set_option maxRecDepth 100000
set_option maxHeartbeats 4000000
namespace SQ
open PySem PySem.Spec PyProof.Rows L2
section
variable {P : Program} {w : World} {K : PySem.W.Frag} {mg : Str → Option Value} {base : Heap}
abbrev Nis_integer_in : List Str := ["value", "least", "greatest"]
theorem scis_integer_in : FnScope Nis_integer_in ["value", "least", "greatest"] (defScope sis_integer_in) := ⟨rfl, rfl, rfl, by decide +kernel, rfl, by decide +kernel, by decide +kernel⟩
theorem ok_is_integer_in {f : Addr} {fd : FuncData} (F : Fun K "is_integer_in" "is_integer_in" sis_integer_in f fd) (T : Nm mg) : FnOk P w K mg base CX0 2 f fd ["value", "least", "greatest"] (spIntIn K) := by
  have nd := scis_integer_in.nd
  refine F.ok scis_integer_in (fun vs H Q E h => ?_) (fun cdv A outer s H vs Q E hr h => ?_)
  · obtain ⟨v, a, b, rfl, pl, q⟩ := h
    rfl
  · obtain ⟨v, a, b, rfl, pl, q⟩ := h
    skip
    refine ⟨_, (pss_one (ps_ret (pe_and (pe_callB call_isi (by rfl) T.b_isinstance (by decide +kernel) (pa_cons (pv 0) (pa_cons (pe_bltn (v := .ty "int") (by rfl) T.b_int (by decide +kernel) rfl) pa_nil))) (pe_and (pe_not (pe_callB call_isi (by rfl) T.b_isinstance (by decide +kernel) (pa_cons (pv 0) (pa_cons (pe_bltn (v := .ty "bool") (by rfl) T.b_bool (by decide +kernel) rfl) pa_nil)))) (pe_one (pe_chain op_le op_le (pv 1) (pv 0) (pv 2))))))), ?_⟩

    cases pl with
    | non =>
      refine ⟨_, rfl, _, _, _, _, false, rfl, .ty "int", .base .non, kit_ty (show kitB "NoneType" "int" = some false by decide +kernel), false, rfl, ?_⟩
      exact q
    | bl b' =>
      refine ⟨_, rfl, _, _, _, _, true, rfl, .ty "int", .base (.bl b'), kit_ty (show kitB "bool" "int" = some true by decide +kernel), true, rfl, ?_⟩
      refine ⟨_, rfl, _, _, _, _, true, rfl, .ty "bool", .base (.bl b'), kit_ty (show kitB "bool" "bool" = some true by decide +kernel), true, rfl, ?_⟩
      refine ⟨false, rfl, ?_⟩
      exact q
    | int i =>
      refine ⟨_, rfl, _, _, _, _, true, rfl, .ty "int", .base (.int i), kit_ty (show kitB "int" "int" = some true by decide +kernel), true, rfl, ?_⟩
      refine ⟨_, rfl, _, _, _, _, false, rfl, .ty "bool", .base (.int i), kit_ty (show kitB "int" "bool" = some false by decide +kernel), false, rfl, ?_⟩
      refine ⟨true, rfl, ?_⟩
      refine iteT ?_
      refine ⟨_, rfl, _, rfl, _, _, rfl, rfl, _, rfl, ite2 (fun e1 => ?_) (fun e1 => ?_)⟩
      · refine ⟨_, rfl, _, _, rfl, rfl, ?_⟩
        rw [show inB a b (.int i) = (decide (a ≤ i) && decide (i ≤ b)) from rfl, e1, Bool.true_and] at q
        exact q
      · rw [show inB a b (.int i) = (decide (a ≤ i) && decide (i ≤ b)) from rfl, Bool.not_eq_true _ |>.mp e1, Bool.false_and] at q
        exact q
    | tup e =>
      refine ⟨_, rfl, _, _, _, _, false, rfl, .ty "int", ty_tup e, kit_ty (show kitB "tuple" "int" = some false by decide +kernel), false, rfl, ?_⟩
      exact q
    | lst e =>
      refine ⟨_, rfl, _, _, _, _, false, rfl, .ty "int", .base (.lst e), kit_ty (show kitB "list" "int" = some false by decide +kernel), false, rfl, ?_⟩
      exact q
    | dct e =>
      refine ⟨_, rfl, _, _, _, _, false, rfl, .ty "int", .base (.dK e), kit_ty (show kitB "dict" "int" = some false by decide +kernel), false, rfl, ?_⟩
      exact q
end
end SQ
set_option Elab.async false
set_option linter.all false
set_option maxRecDepth 100000
set_option maxHeartbeats 8000000
namespace FS
open PySem PySem.Spec PyProof.Rows L2 LamX
theorem all_mk {l : PySem.W.OpenLaw} {w : World} {K : PySem.W.Frag} {h : Heap} {mg : Str → Option Value} {fa C CP CS CI aK aT aW f1 f2 f3 f4 f5 f6 f7 f8 f9 f10 f11 f12 f13 f14 f15 f16 f17 f18 f19 f20 f21 f22 f23 f24 f25 f26 f27 f28 f29 f30 f31 f32 f33 f34 f35 f36 f37 f38 f39 f40 f41 f42 f43 f44 f45 f46 f47 f48 f49 f50 f51 f52 f53 f54 f55 f56 f57 f58 f59 f60 f61 f62 f63 f64 p_Procedurenamed p_Procedureparameters p_Procedurebody p_Procedurekinds p_Procedurewords p_Programmodes p_Programprocedures p_Spacesize pc_Programof kD62 kD26 dT : Addr} (X : K.In h) (G : h.Ns mainGlobals mg) (hfa : mg "law" = some (.ref fa))
    {od1 an1 od2 an2 od3 an3 od4 an4 od5 an5 od6 an6 od7 an7 od8 an8 od9 an9 od10 an10 od11 an11 od12 an12 od13 an13 od14 an14 od15 an15 od16 an16 od17 an17 od18 an18 od19 an19 od20 an20 od21 an21 od22 an22 od23 an23 od24 an24 od25 an25 od26 an26 od27 an27 od28 an28 od29 an29 od30 an30 od31 an31 od32 an32 od33 an33 od34 an34 od35 an35 od36 an36 od37 an37 od38 an38 od39 an39 od40 an40 od41 an41 od42 an42 od43 an43 od44 an44 od45 an45 od46 an46 od47 an47 od48 an48 od49 an49 od50 an50 od51 an51 od52 an52 od53 an53 od54 an54 od55 an55 od56 an56 od57 an57 od58 an58 od59 an59 od60 an60 od61 an61 od62 an62 od63 an63 od64 an64 : Option Addr} {sl1 sl2 sl3 sl4 sl5 sl6 sl7 sl8 sl9 sl10 sl11 sl12 sl13 sl14 sl15 sl16 sl17 sl18 sl19 sl20 sl21 sl22 sl23 sl24 sl25 sl26 sl27 sl28 sl29 sl30 sl31 sl32 sl33 sl34 sl35 sl36 sl37 sl38 sl39 sl40 sl41 sl42 sl43 sl44 sl45 sl46 sl47 sl48 sl49 sl50 sl51 sl52 sl53 sl54 sl55 sl56 sl57 sl58 sl59 sl60 sl61 sl62 sl63 sl64 : Array (Option Value)} {oc1 kV1 dc1 pm1 ct1 cd1 oc2 kV2 dc2 pm2 ct2 cd2 oc3 kV3 dc3 pm3 ct3 cd3 oc4 kV4 dc4 pm4 ct4 cd4 oc5 kV5 dc5 pm5 ct5 cd5 oc6 kV6 dc6 pm6 ct6 cd6 oc7 kV7 dc7 pm7 ct7 cd7 oc8 kV8 dc8 pm8 ct8 cd8 oc9 kV9 dc9 pm9 ct9 cd9 oc10 kV10 dc10 pm10 ct10 cd10 oc11 kV11 dc11 pm11 ct11 cd11 oc12 kV12 dc12 pm12 ct12 cd12 oc13 kV13 dc13 pm13 ct13 cd13 oc14 kV14 dc14 pm14 ct14 cd14 oc15 kV15 dc15 pm15 ct15 cd15 oc16 kV16 dc16 pm16 ct16 cd16 oc17 kV17 dc17 pm17 ct17 cd17 oc18 kV18 dc18 pm18 ct18 cd18 oc19 kV19 dc19 pm19 ct19 cd19 oc20 kV20 dc20 pm20 ct20 cd20 oc21 kV21 dc21 pm21 ct21 cd21 oc22 kV22 dc22 pm22 ct22 cd22 oc23 kV23 dc23 pm23 ct23 cd23 oc24 kV24 dc24 pm24 ct24 cd24 oc25 kV25 dc25 pm25 ct25 cd25 oc26 dc26 pm26 ct26 cd26 oc27 kV27 dc27 pm27 ct27 cd27 oc28 kV28 dc28 pm28 ct28 cd28 oc29 kV29 dc29 pm29 ct29 cd29 oc30 kV30 dc30 pm30 ct30 cd30 oc31 kV31 dc31 pm31 ct31 cd31 oc32 kV32 dc32 pm32 ct32 cd32 oc33 kV33 dc33 pm33 ct33 cd33 oc34 kV34 dc34 pm34 ct34 cd34 oc35 kV35 dc35 pm35 ct35 cd35 oc36 kV36 dc36 pm36 ct36 cd36 oc37 kV37 dc37 pm37 ct37 cd37 oc38 kV38 dc38 pm38 ct38 cd38 oc39 kV39 dc39 pm39 ct39 cd39 oc40 kV40 dc40 pm40 ct40 cd40 oc41 kV41 dc41 pm41 ct41 cd41 oc42 kV42 dc42 pm42 ct42 cd42 oc43 kV43 dc43 pm43 ct43 cd43 oc44 kV44 dc44 pm44 ct44 cd44 oc45 kV45 dc45 pm45 ct45 cd45 oc46 kV46 dc46 pm46 ct46 cd46 oc47 kV47 dc47 pm47 ct47 cd47 oc48 kV48 dc48 pm48 ct48 cd48 oc49 kV49 dc49 pm49 ct49 cd49 oc50 kV50 dc50 pm50 ct50 cd50 oc51 kV51 dc51 pm51 ct51 cd51 oc52 kV52 dc52 pm52 ct52 cd52 oc53 kV53 dc53 pm53 ct53 cd53 oc54 kV54 dc54 pm54 ct54 cd54 oc55 kV55 dc55 pm55 ct55 cd55 oc56 kV56 dc56 pm56 ct56 cd56 oc57 kV57 dc57 pm57 ct57 cd57 oc58 kV58 dc58 pm58 ct58 cd58 oc59 kV59 dc59 pm59 ct59 cd59 oc60 kV60 dc60 pm60 ct60 cd60 oc61 kV61 dc61 pm61 ct61 cd61 oc62 dc62 pm62 ct62 cd62 oc63 kV63 dc63 pm63 ct63 cd63 oc64 kV64 dc64 pm64 ct64 cd64 : Value}
    {ddT : Option Addr} {ttT : Tok} {nnT : Nat} {zzT : Array (Option Value)}
    {t_MAX_LETTERS t_MAX_MODES t_MAX_PARAMETERS t_MAX_DEPTH t_MAX_TERMS t_MAX_PROCEDURES t_MAX_MODES_WITH_WRAPS t_KINDS0 t_KINDS1 t_TERM_TAGS0 t_TERM_TAGS1 t_TERM_TAGS2 t_TERM_TAGS3 t_TERM_TAGS4 t_TERM_TAGS5 t_WRAP_TAGS0 t_WRAP_TAGS1 : Tok}
    {d_KINDS d_TERM_TAGS d_WRAP_TAGS : Option Addr} {n_KINDS n_TERM_TAGS n_WRAP_TAGS : Nat} {z_KINDS z_TERM_TAGS z_WRAP_TAGS : Array (Option Value)}
    {rp_Procedurenamed rp_Procedureparameters rp_Procedurebody rp_Procedurekinds rp_Procedurewords rp_Programmodes rp_Programprocedures rp_Spacesize rc_Programof : List Value}
    (a1 : PySem.W.nsIn K mainGlobals "is_integer_in" = some (some (.ref f1)))
    (l1 : K.lookup f1 = some ⟨oc1, od1, .func (PySem.W.fnOf "is_integer_in" "is_integer_in" (defArgs sis_integer_in) (defBody sis_integer_in) (defScope sis_integer_in) .none kV1 dc1 pm1 an1 cd1 ct1), sl1⟩)
    (c1 : PySem.W.codeIn K cd1 "is_integer_in" = true)
    (k1 : PySem.W.keepIn K (.ref f1) = true)
    (a2 : PySem.W.nsIn K mainGlobals "are_integers_below" = some (some (.ref f2)))
    (l2 : K.lookup f2 = some ⟨oc2, od2, .func (PySem.W.fnOf "are_integers_below" "are_integers_below" (defArgs sare_integers_below) (defBody sare_integers_below) (defScope sare_integers_below) .none kV2 dc2 pm2 an2 cd2 ct2), sl2⟩)
    (c2 : PySem.W.codeIn K cd2 "are_integers_below" = true)
    (k2 : PySem.W.keepIn K (.ref f2) = true)
    (a3 : PySem.W.nsIn K mainGlobals "is_name" = some (some (.ref f3)))
    (l3 : K.lookup f3 = some ⟨oc3, od3, .func (PySem.W.fnOf "is_name" "is_name" (defArgs sis_name) (defBody sis_name) (defScope sis_name) .none kV3 dc3 pm3 an3 cd3 ct3), sl3⟩)
    (c3 : PySem.W.codeIn K cd3 "is_name" = true)
    (k3 : PySem.W.keepIn K (.ref f3) = true)
    (a4 : PySem.W.nsIn K mainGlobals "kind_of" = some (some (.ref f4)))
    (l4 : K.lookup f4 = some ⟨oc4, od4, .func (PySem.W.fnOf "kind_of" "kind_of" (defArgs skind_of) (defBody skind_of) (defScope skind_of) .none kV4 dc4 pm4 an4 cd4 ct4), sl4⟩)
    (c4 : PySem.W.codeIn K cd4 "kind_of" = true)
    (k4 : PySem.W.keepIn K (.ref f4) = true)
    (a5 : PySem.W.nsIn K mainGlobals "kinds_of" = some (some (.ref f5)))
    (l5 : K.lookup f5 = some ⟨oc5, od5, .func (PySem.W.fnOf "kinds_of" "kinds_of" (defArgs skinds_of) (defBody skinds_of) (defScope skinds_of) .none kV5 dc5 pm5 an5 cd5 ct5), sl5⟩)
    (c5 : PySem.W.codeIn K cd5 "kinds_of" = true)
    (k5 : PySem.W.keepIn K (.ref f5) = true)
    (a6 : PySem.W.nsIn K mainGlobals "parts_in" = some (some (.ref f6)))
    (l6 : K.lookup f6 = some ⟨oc6, od6, .func (PySem.W.fnOf "parts_in" "parts_in" (defArgs sparts_in) (defBody sparts_in) (defScope sparts_in) .none kV6 dc6 pm6 an6 cd6 ct6), sl6⟩)
    (c6 : PySem.W.codeIn K cd6 "parts_in" = true)
    (k6 : PySem.W.keepIn K (.ref f6) = true)
    (a7 : PySem.W.nsIn K mainGlobals "kinds_in_terms" = some (some (.ref f7)))
    (l7 : K.lookup f7 = some ⟨oc7, od7, .func (PySem.W.fnOf "kinds_in" "kinds_in" (defArgs skinds_in) (defBody skinds_in) (defScope skinds_in) .none kV7 dc7 pm7 an7 cd7 ct7), sl7⟩)
    (c7 : PySem.W.codeIn K cd7 "kinds_in" = true)
    (k7 : PySem.W.keepIn K (.ref f7) = true)
    (a8 : PySem.W.nsIn K mainGlobals "all_parts" = some (some (.ref f8)))
    (l8 : K.lookup f8 = some ⟨oc8, od8, .func (PySem.W.fnOf "all_parts" "all_parts" (defArgs sall_parts) (defBody sall_parts) (defScope sall_parts) .none kV8 dc8 pm8 an8 cd8 ct8), sl8⟩)
    (c8 : PySem.W.codeIn K cd8 "all_parts" = true)
    (k8 : PySem.W.keepIn K (.ref f8) = true)
    (a9 : PySem.W.nsIn K mainGlobals "is_deed_table" = some (some (.ref f9)))
    (l9 : K.lookup f9 = some ⟨oc9, od9, .func (PySem.W.fnOf "is_deed_table" "is_deed_table" (defArgs sis_deed_table) (defBody sis_deed_table) (defScope sis_deed_table) .none kV9 dc9 pm9 an9 cd9 ct9), sl9⟩)
    (c9 : PySem.W.codeIn K cd9 "is_deed_table" = true)
    (k9 : PySem.W.keepIn K (.ref f9) = true)
    (a10 : PySem.W.nsIn K mainGlobals "has_form" = some (some (.ref f10)))
    (l10 : K.lookup f10 = some ⟨oc10, od10, .func (PySem.W.fnOf "has_form" "has_form" (defArgs shas_form) (defBody shas_form) (defScope shas_form) .none kV10 dc10 pm10 an10 cd10 ct10), sl10⟩)
    (c10 : PySem.W.codeIn K cd10 "has_form" = true)
    (k10 : PySem.W.keepIn K (.ref f10) = true)
    (a11 : PySem.W.nsIn K mainGlobals "is_parameter" = some (some (.ref f11)))
    (l11 : K.lookup f11 = some ⟨oc11, od11, .func (PySem.W.fnOf "is_parameter" "is_parameter" (defArgs sis_parameter) (defBody sis_parameter) (defScope sis_parameter) .none kV11 dc11 pm11 an11 cd11 ct11), sl11⟩)
    (c11 : PySem.W.codeIn K cd11 "is_parameter" = true)
    (k11 : PySem.W.keepIn K (.ref f11) = true)
    (a12 : PySem.W.nsIn K mainGlobals "are_parameters" = some (some (.ref f12)))
    (l12 : K.lookup f12 = some ⟨oc12, od12, .func (PySem.W.fnOf "are_parameters" "are_parameters" (defArgs sare_parameters) (defBody sare_parameters) (defScope sare_parameters) .none kV12 dc12 pm12 an12 cd12 ct12), sl12⟩)
    (c12 : PySem.W.codeIn K cd12 "are_parameters" = true)
    (k12 : PySem.W.keepIn K (.ref f12) = true)
    (a13 : PySem.W.nsIn K mainGlobals "is_term" = some (some (.ref f13)))
    (l13 : K.lookup f13 = some ⟨oc13, od13, .func (PySem.W.fnOf "is_term" "is_term" (defArgs sis_term) (defBody sis_term) (defScope sis_term) .none kV13 dc13 pm13 an13 cd13 ct13), sl13⟩)
    (c13 : PySem.W.codeIn K cd13 "is_term" = true)
    (k13 : PySem.W.keepIn K (.ref f13) = true)
    (a14 : PySem.W.nsIn K mainGlobals "kinds_by_name" = some (some (.ref f14)))
    (l14 : K.lookup f14 = some ⟨oc14, od14, .func (PySem.W.fnOf "kinds_by_name" "kinds_by_name" (defArgs skinds_by_name) (defBody skinds_by_name) (defScope skinds_by_name) .none kV14 dc14 pm14 an14 cd14 ct14), sl14⟩)
    (c14 : PySem.W.codeIn K cd14 "kinds_by_name" = true)
    (k14 : PySem.W.keepIn K (.ref f14) = true)
    (a15 : PySem.W.nsIn K mainGlobals "have_wraps" = some (some (.ref f15)))
    (l15 : K.lookup f15 = some ⟨oc15, od15, .func (PySem.W.fnOf "have_wraps" "have_wraps" (defArgs shave_wraps) (defBody shave_wraps) (defScope shave_wraps) .none kV15 dc15 pm15 an15 cd15 ct15), sl15⟩)
    (c15 : PySem.W.codeIn K cd15 "have_wraps" = true)
    (k15 : PySem.W.keepIn K (.ref f15) = true)
    (a16 : PySem.W.nsIn K mainGlobals "are_procedures" = some (some (.ref f16)))
    (l16 : K.lookup f16 = some ⟨oc16, od16, .func (PySem.W.fnOf "are_procedures" "are_procedures" (defArgs sare_procedures) (defBody sare_procedures) (defScope sare_procedures) .none kV16 dc16 pm16 an16 cd16 ct16), sl16⟩)
    (c16 : PySem.W.codeIn K cd16 "are_procedures" = true)
    (k16 : PySem.W.keepIn K (.ref f16) = true)
    (a17 : PySem.W.nsIn K mainGlobals "fits" = some (some (.ref f17)))
    (l17 : K.lookup f17 = some ⟨oc17, od17, .func (PySem.W.fnOf "fits" "fits" (defArgs sfits) (defBody sfits) (defScope sfits) .none kV17 dc17 pm17 an17 cd17 ct17), sl17⟩)
    (c17 : PySem.W.codeIn K cd17 "fits" = true)
    (k17 : PySem.W.keepIn K (.ref f17) = true)
    (a18 : PySem.W.nsIn K mainGlobals "can_make_program" = some (some (.ref f18)))
    (l18 : K.lookup f18 = some ⟨oc18, od18, .func (PySem.W.fnOf "can_make_program" "can_make_program" (defArgs scan_make_program) (defBody scan_make_program) (defScope scan_make_program) .none kV18 dc18 pm18 an18 cd18 ct18), sl18⟩)
    (c18 : PySem.W.codeIn K cd18 "can_make_program" = true)
    (k18 : PySem.W.keepIn K (.ref f18) = true)
    (a19 : PySem.W.nsIn K mainGlobals "check_program" = some (some (.ref f19)))
    (l19 : K.lookup f19 = some ⟨oc19, od19, .func (PySem.W.fnOf "check_program" "check_program" (defArgs scheck_program) (defBody scheck_program) (defScope scheck_program) .none kV19 dc19 pm19 an19 cd19 ct19), sl19⟩)
    (c19 : PySem.W.codeIn K cd19 "check_program" = true)
    (k19 : PySem.W.keepIn K (.ref f19) = true)
    (a20 : PySem.W.nsIn K mainGlobals "check_word" = some (some (.ref f20)))
    (l20 : K.lookup f20 = some ⟨oc20, od20, .func (PySem.W.fnOf "check_word" "check_word" (defArgs scheck_word) (defBody scheck_word) (defScope scheck_word) .none kV20 dc20 pm20 an20 cd20 ct20), sl20⟩)
    (c20 : PySem.W.codeIn K cd20 "check_word" = true)
    (k20 : PySem.W.keepIn K (.ref f20) = true)
    (a21 : PySem.W.nsIn K mainGlobals "check_optional_word" = some (some (.ref f21)))
    (l21 : K.lookup f21 = some ⟨oc21, od21, .func (PySem.W.fnOf "check_optional_word" "check_optional_word" (defArgs scheck_optional_word) (defBody scheck_optional_word) (defScope scheck_optional_word) .none kV21 dc21 pm21 an21 cd21 ct21), sl21⟩)
    (c21 : PySem.W.codeIn K cd21 "check_optional_word" = true)
    (k21 : PySem.W.keepIn K (.ref f21) = true)
    (a22 : PySem.W.nsIn K mainGlobals "same_of" = some (some (.ref f22)))
    (l22 : K.lookup f22 = some ⟨oc22, od22, .func (PySem.W.fnOf "same_of" "same_of" (defArgs ssame_of) (defBody ssame_of) (defScope ssame_of) .none kV22 dc22 pm22 an22 cd22 ct22), sl22⟩)
    (c22 : PySem.W.codeIn K cd22 "same_of" = true)
    (k22 : PySem.W.keepIn K (.ref f22) = true)
    (a23 : PySem.W.nsIn K mainGlobals "space_of" = some (some (.ref f23)))
    (l23 : K.lookup f23 = some ⟨oc23, od23, .func (PySem.W.fnOf "space_of" "space_of" (defArgs sspace_of) (defBody sspace_of) (defScope sspace_of) .none kV23 dc23 pm23 an23 cd23 ct23), sl23⟩)
    (c23 : PySem.W.codeIn K cd23 "space_of" = true)
    (k23 : PySem.W.keepIn K (.ref f23) = true)
    (a24 : PySem.W.nsIn K mainGlobals "has_context_form" = some (some (.ref f24)))
    (l24 : K.lookup f24 = some ⟨oc24, od24, .func (PySem.W.fnOf "has_context_form" "has_context_form" (defArgs shas_context_form) (defBody shas_context_form) (defScope shas_context_form) .none kV24 dc24 pm24 an24 cd24 ct24), sl24⟩)
    (c24 : PySem.W.codeIn K cd24 "has_context_form" = true)
    (k24 : PySem.W.keepIn K (.ref f24) = true)
    (a25 : PySem.W.nsIn K mainGlobals "kinds_in_reckoning" = some (some (.ref f25)))
    (l25 : K.lookup f25 = some ⟨oc25, od25, .func (PySem.W.fnOf "kinds_in" "kinds_in" (defArgs skinds_in_b) (defBody skinds_in_b) (defScope skinds_in_b) .none kV25 dc25 pm25 an25 cd25 ct25), sl25⟩)
    (c25 : PySem.W.codeIn K cd25 "kinds_in" = true)
    (k25 : PySem.W.keepIn K (.ref f25) = true)
    (a26 : PySem.W.nsIn K mainGlobals "is_context" = some (some (.ref f26)))
    (l26 : K.lookup f26 = some ⟨oc26, od26, .func (PySem.W.fnOf "is_context" "is_context" (defArgs sis_context) (defBody sis_context) (defScope sis_context) .none (.ref kD26) dc26 pm26 an26 cd26 ct26), sl26⟩)
    (c26 : PySem.W.codeIn K cd26 "is_context" = true)
    (k26 : PySem.W.keepIn K (.ref f26) = true)
    (a27 : PySem.W.nsIn K mainGlobals "_law_sack" = some (some (.ref f27)))
    (l27 : K.lookup f27 = some ⟨oc27, od27, .func (PySem.W.fnOf "_law_sack" "_law_sack" (defArgs s_law_sack) (defBody s_law_sack) (defScope s_law_sack) .none kV27 dc27 pm27 an27 cd27 ct27), sl27⟩)
    (c27 : PySem.W.codeIn K cd27 "_law_sack" = true)
    (k27 : PySem.W.keepIn K (.ref f27) = true)
    (a28 : PySem.W.nsIn K mainGlobals "_law_deal" = some (some (.ref f28)))
    (l28 : K.lookup f28 = some ⟨oc28, od28, .func (PySem.W.fnOf "_law_deal" "_law_deal" (defArgs s_law_deal) (defBody s_law_deal) (defScope s_law_deal) .none kV28 dc28 pm28 an28 cd28 ct28), sl28⟩)
    (c28 : PySem.W.codeIn K cd28 "_law_deal" = true)
    (k28 : PySem.W.keepIn K (.ref f28) = true)
    (a29 : PySem.W.nsIn K mainGlobals "_law_pick" = some (some (.ref f29)))
    (l29 : K.lookup f29 = some ⟨oc29, od29, .func (PySem.W.fnOf "_law_pick" "_law_pick" (defArgs s_law_pick) (defBody s_law_pick) (defScope s_law_pick) .none kV29 dc29 pm29 an29 cd29 ct29), sl29⟩)
    (c29 : PySem.W.codeIn K cd29 "_law_pick" = true)
    (k29 : PySem.W.keepIn K (.ref f29) = true)
    (a30 : PySem.W.nsIn K mainGlobals "_law_deed" = some (some (.ref f30)))
    (l30 : K.lookup f30 = some ⟨oc30, od30, .func (PySem.W.fnOf "_law_deed" "_law_deed" (defArgs s_law_deed) (defBody s_law_deed) (defScope s_law_deed) .none kV30 dc30 pm30 an30 cd30 ct30), sl30⟩)
    (c30 : PySem.W.codeIn K cd30 "_law_deed" = true)
    (k30 : PySem.W.keepIn K (.ref f30) = true)
    (a31 : PySem.W.nsIn K mainGlobals "_law_handed" = some (some (.ref f31)))
    (l31 : K.lookup f31 = some ⟨oc31, od31, .func (PySem.W.fnOf "_law_handed" "_law_handed" (defArgs s_law_handed) (defBody s_law_handed) (defScope s_law_handed) .none kV31 dc31 pm31 an31 cd31 ct31), sl31⟩)
    (c31 : PySem.W.codeIn K cd31 "_law_handed" = true)
    (k31 : PySem.W.keepIn K (.ref f31) = true)
    (a32 : PySem.W.nsIn K mainGlobals "_law_call" = some (some (.ref f32)))
    (l32 : K.lookup f32 = some ⟨oc32, od32, .func (PySem.W.fnOf "_law_call" "_law_call" (defArgs s_law_call) (defBody s_law_call) (defScope s_law_call) .none kV32 dc32 pm32 an32 cd32 ct32), sl32⟩)
    (c32 : PySem.W.codeIn K cd32 "_law_call" = true)
    (k32 : PySem.W.keepIn K (.ref f32) = true)
    (a33 : PySem.W.nsIn K mainGlobals "_law_term" = some (some (.ref f33)))
    (l33 : K.lookup f33 = some ⟨oc33, od33, .func (PySem.W.fnOf "_law_term" "_law_term" (defArgs s_law_term) (defBody s_law_term) (defScope s_law_term) .none kV33 dc33 pm33 an33 cd33 ct33), sl33⟩)
    (c33 : PySem.W.codeIn K cd33 "_law_term" = true)
    (k33 : PySem.W.keepIn K (.ref f33) = true)
    (a34 : PySem.W.nsIn K mainGlobals "_law_wild" = some (some (.ref f34)))
    (l34 : K.lookup f34 = some ⟨oc34, od34, .func (PySem.W.fnOf "_law_wild" "_law_wild" (defArgs s_law_wild) (defBody s_law_wild) (defScope s_law_wild) (.ref dT) kV34 dc34 pm34 an34 cd34 ct34), sl34⟩)
    (c34 : PySem.W.codeIn K cd34 "_law_wild" = true)
    (k34 : PySem.W.keepIn K (.ref f34) = true)
    (a35 : PySem.W.nsIn K mainGlobals "_law_framed" = some (some (.ref f35)))
    (l35 : K.lookup f35 = some ⟨oc35, od35, .func (PySem.W.fnOf "_law_framed" "_law_framed" (defArgs s_law_framed) (defBody s_law_framed) (defScope s_law_framed) .none kV35 dc35 pm35 an35 cd35 ct35), sl35⟩)
    (c35 : PySem.W.codeIn K cd35 "_law_framed" = true)
    (k35 : PySem.W.keepIn K (.ref f35) = true)
    (a36 : PySem.W.nsIn K mainGlobals "_law_plain" = some (some (.ref f36)))
    (l36 : K.lookup f36 = some ⟨oc36, od36, .func (PySem.W.fnOf "_law_plain" "_law_plain" (defArgs s_law_plain) (defBody s_law_plain) (defScope s_law_plain) .none kV36 dc36 pm36 an36 cd36 ct36), sl36⟩)
    (c36 : PySem.W.codeIn K cd36 "_law_plain" = true)
    (k36 : PySem.W.keepIn K (.ref f36) = true)
    (a37 : PySem.W.nsIn K mainGlobals "_law_made" = some (some (.ref f37)))
    (l37 : K.lookup f37 = some ⟨oc37, od37, .func (PySem.W.fnOf "_law_made" "_law_made" (defArgs s_law_made) (defBody s_law_made) (defScope s_law_made) .none kV37 dc37 pm37 an37 cd37 ct37), sl37⟩)
    (c37 : PySem.W.codeIn K cd37 "_law_made" = true)
    (k37 : PySem.W.keepIn K (.ref f37) = true)
    (a38 : PySem.W.nsIn K mainGlobals "_law_by_name" = some (some (.ref f38)))
    (l38 : K.lookup f38 = some ⟨oc38, od38, .func (PySem.W.fnOf "_law_by_name" "_law_by_name" (defArgs s_law_by_name) (defBody s_law_by_name) (defScope s_law_by_name) .none kV38 dc38 pm38 an38 cd38 ct38), sl38⟩)
    (c38 : PySem.W.codeIn K cd38 "_law_by_name" = true)
    (k38 : PySem.W.keepIn K (.ref f38) = true)
    (a39 : PySem.W.nsIn K mainGlobals "_law_powers" = some (some (.ref f39)))
    (l39 : K.lookup f39 = some ⟨oc39, od39, .func (PySem.W.fnOf "_law_powers" "_law_powers" (defArgs s_law_powers) (defBody s_law_powers) (defScope s_law_powers) .none kV39 dc39 pm39 an39 cd39 ct39), sl39⟩)
    (c39 : PySem.W.codeIn K cd39 "_law_powers" = true)
    (k39 : PySem.W.keepIn K (.ref f39) = true)
    (a40 : PySem.W.nsIn K mainGlobals "_law_space" = some (some (.ref f40)))
    (l40 : K.lookup f40 = some ⟨oc40, od40, .func (PySem.W.fnOf "_law_space" "_law_space" (defArgs s_law_space) (defBody s_law_space) (defScope s_law_space) .none kV40 dc40 pm40 an40 cd40 ct40), sl40⟩)
    (c40 : PySem.W.codeIn K cd40 "_law_space" = true)
    (k40 : PySem.W.keepIn K (.ref f40) = true)
    (a41 : PySem.W.nsIn K mainGlobals "_law_code" = some (some (.ref f41)))
    (l41 : K.lookup f41 = some ⟨oc41, od41, .func (PySem.W.fnOf "_law_code" "_law_code" (defArgs s_law_code) (defBody s_law_code) (defScope s_law_code) .none kV41 dc41 pm41 an41 cd41 ct41), sl41⟩)
    (c41 : PySem.W.codeIn K cd41 "_law_code" = true)
    (k41 : PySem.W.keepIn K (.ref f41) = true)
    (a42 : PySem.W.nsIn K mainGlobals "_law_is_relation" = some (some (.ref f42)))
    (l42 : K.lookup f42 = some ⟨oc42, od42, .func (PySem.W.fnOf "_law_is_relation" "_law_is_relation" (defArgs s_law_is_relation) (defBody s_law_is_relation) (defScope s_law_is_relation) .none kV42 dc42 pm42 an42 cd42 ct42), sl42⟩)
    (c42 : PySem.W.codeIn K cd42 "_law_is_relation" = true)
    (k42 : PySem.W.keepIn K (.ref f42) = true)
    (a43 : PySem.W.nsIn K mainGlobals "_law_is_meaning" = some (some (.ref f43)))
    (l43 : K.lookup f43 = some ⟨oc43, od43, .func (PySem.W.fnOf "_law_is_meaning" "_law_is_meaning" (defArgs s_law_is_meaning) (defBody s_law_is_meaning) (defScope s_law_is_meaning) .none kV43 dc43 pm43 an43 cd43 ct43), sl43⟩)
    (c43 : PySem.W.codeIn K cd43 "_law_is_meaning" = true)
    (k43 : PySem.W.keepIn K (.ref f43) = true)
    (a44 : PySem.W.nsIn K mainGlobals "_law_due" = some (some (.ref f44)))
    (l44 : K.lookup f44 = some ⟨oc44, od44, .func (PySem.W.fnOf "_law_due" "_law_due" (defArgs s_law_due) (defBody s_law_due) (defScope s_law_due) .none kV44 dc44 pm44 an44 cd44 ct44), sl44⟩)
    (c44 : PySem.W.codeIn K cd44 "_law_due" = true)
    (k44 : PySem.W.keepIn K (.ref f44) = true)
    (a45 : PySem.W.nsIn K mainGlobals "_law_values" = some (some (.ref f45)))
    (l45 : K.lookup f45 = some ⟨oc45, od45, .func (PySem.W.fnOf "_law_values" "_law_values" (defArgs s_law_values) (defBody s_law_values) (defScope s_law_values) .none kV45 dc45 pm45 an45 cd45 ct45), sl45⟩)
    (c45 : PySem.W.codeIn K cd45 "_law_values" = true)
    (k45 : PySem.W.keepIn K (.ref f45) = true)
    (a46 : PySem.W.nsIn K mainGlobals "_law_right" = some (some (.ref f46)))
    (l46 : K.lookup f46 = some ⟨oc46, od46, .func (PySem.W.fnOf "_law_right" "_law_right" (defArgs s_law_right) (defBody s_law_right) (defScope s_law_right) .none kV46 dc46 pm46 an46 cd46 ct46), sl46⟩)
    (c46 : PySem.W.codeIn K cd46 "_law_right" = true)
    (k46 : PySem.W.keepIn K (.ref f46) = true)
    (a47 : PySem.W.nsIn K mainGlobals "law" = some (some (.ref f47)))
    (l47 : K.lookup f47 = some ⟨oc47, od47, .func (PySem.W.fnOf "law" "law" (defArgs slaw) (defBody slaw) (defScope slaw) .none kV47 dc47 pm47 an47 cd47 ct47), sl47⟩)
    (c47 : PySem.W.codeIn K cd47 "law" = true)
    (k47 : PySem.W.keepIn K (.ref f47) = true)
    (a48 : PySem.W.findIn K (.ref C) "__init__" = some (some (.ref f48)))
    (i48 : PySem.W.isFn K (.ref f48) = true)
    (l48 : K.lookup f48 = some ⟨oc48, od48, .func (PySem.W.fnOf "__init__" "Procedure.__init__" (defArgs sProcedure__init__) (defBody sProcedure__init__) (defScope sProcedure__init__) .none kV48 dc48 pm48 an48 cd48 ct48), sl48⟩)
    (c48 : PySem.W.codeIn K cd48 "Procedure.__init__" = true)
    (k48 : PySem.W.keepIn K (.ref f48) = true)
    (pa49 : PySem.W.findIn K (.ref C) "named" = some (some (.ref p_Procedurenamed)))
    (pg49 : PySem.W.specialIn K (.ref p_Procedurenamed) "__get__" = some (some (.builtin "property.__get__")))
    (pt49 : PySem.W.takesIn K (.ref p_Procedurenamed) = some true)
    (pr49 : PySem.W.recIn K p_Procedurenamed "property" = some (.ref f49 :: rp_Procedurenamed))
    (l49 : K.lookup f49 = some ⟨oc49, od49, .func (PySem.W.fnOf "named" "Procedure.named" (defArgs sProcedurenamed) (defBody sProcedurenamed) (defScope sProcedurenamed) .none kV49 dc49 pm49 an49 cd49 ct49), sl49⟩)
    (c49 : PySem.W.codeIn K cd49 "Procedure.named" = true)
    (k49 : PySem.W.keepIn K (.ref f49) = true)
    (pa50 : PySem.W.findIn K (.ref C) "parameters" = some (some (.ref p_Procedureparameters)))
    (pg50 : PySem.W.specialIn K (.ref p_Procedureparameters) "__get__" = some (some (.builtin "property.__get__")))
    (pt50 : PySem.W.takesIn K (.ref p_Procedureparameters) = some true)
    (pr50 : PySem.W.recIn K p_Procedureparameters "property" = some (.ref f50 :: rp_Procedureparameters))
    (l50 : K.lookup f50 = some ⟨oc50, od50, .func (PySem.W.fnOf "parameters" "Procedure.parameters" (defArgs sProcedureparameters) (defBody sProcedureparameters) (defScope sProcedureparameters) .none kV50 dc50 pm50 an50 cd50 ct50), sl50⟩)
    (c50 : PySem.W.codeIn K cd50 "Procedure.parameters" = true)
    (k50 : PySem.W.keepIn K (.ref f50) = true)
    (pa51 : PySem.W.findIn K (.ref C) "body" = some (some (.ref p_Procedurebody)))
    (pg51 : PySem.W.specialIn K (.ref p_Procedurebody) "__get__" = some (some (.builtin "property.__get__")))
    (pt51 : PySem.W.takesIn K (.ref p_Procedurebody) = some true)
    (pr51 : PySem.W.recIn K p_Procedurebody "property" = some (.ref f51 :: rp_Procedurebody))
    (l51 : K.lookup f51 = some ⟨oc51, od51, .func (PySem.W.fnOf "body" "Procedure.body" (defArgs sProcedurebody) (defBody sProcedurebody) (defScope sProcedurebody) .none kV51 dc51 pm51 an51 cd51 ct51), sl51⟩)
    (c51 : PySem.W.codeIn K cd51 "Procedure.body" = true)
    (k51 : PySem.W.keepIn K (.ref f51) = true)
    (pa52 : PySem.W.findIn K (.ref C) "kinds" = some (some (.ref p_Procedurekinds)))
    (pg52 : PySem.W.specialIn K (.ref p_Procedurekinds) "__get__" = some (some (.builtin "property.__get__")))
    (pt52 : PySem.W.takesIn K (.ref p_Procedurekinds) = some true)
    (pr52 : PySem.W.recIn K p_Procedurekinds "property" = some (.ref f52 :: rp_Procedurekinds))
    (l52 : K.lookup f52 = some ⟨oc52, od52, .func (PySem.W.fnOf "kinds" "Procedure.kinds" (defArgs sProcedurekinds) (defBody sProcedurekinds) (defScope sProcedurekinds) .none kV52 dc52 pm52 an52 cd52 ct52), sl52⟩)
    (c52 : PySem.W.codeIn K cd52 "Procedure.kinds" = true)
    (k52 : PySem.W.keepIn K (.ref f52) = true)
    (pa53 : PySem.W.findIn K (.ref C) "words" = some (some (.ref p_Procedurewords)))
    (pg53 : PySem.W.specialIn K (.ref p_Procedurewords) "__get__" = some (some (.builtin "property.__get__")))
    (pt53 : PySem.W.takesIn K (.ref p_Procedurewords) = some true)
    (pr53 : PySem.W.recIn K p_Procedurewords "property" = some (.ref f53 :: rp_Procedurewords))
    (l53 : K.lookup f53 = some ⟨oc53, od53, .func (PySem.W.fnOf "words" "Procedure.words" (defArgs sProcedurewords) (defBody sProcedurewords) (defScope sProcedurewords) .none kV53 dc53 pm53 an53 cd53 ct53), sl53⟩)
    (c53 : PySem.W.codeIn K cd53 "Procedure.words" = true)
    (k53 : PySem.W.keepIn K (.ref f53) = true)
    (a54 : PySem.W.findIn K (.ref C) "__len__" = some (some (.ref f54)))
    (i54 : PySem.W.isFn K (.ref f54) = true)
    (l54 : K.lookup f54 = some ⟨oc54, od54, .func (PySem.W.fnOf "__len__" "Procedure.__len__" (defArgs sProcedure__len__) (defBody sProcedure__len__) (defScope sProcedure__len__) .none kV54 dc54 pm54 an54 cd54 ct54), sl54⟩)
    (c54 : PySem.W.codeIn K cd54 "Procedure.__len__" = true)
    (k54 : PySem.W.keepIn K (.ref f54) = true)
    (a55 : PySem.W.findIn K (.ref C) "__eq__" = some (some (.ref f55)))
    (i55 : PySem.W.isFn K (.ref f55) = true)
    (l55 : K.lookup f55 = some ⟨oc55, od55, .func (PySem.W.fnOf "__eq__" "Procedure.__eq__" (defArgs sProcedure__eq__) (defBody sProcedure__eq__) (defScope sProcedure__eq__) .none kV55 dc55 pm55 an55 cd55 ct55), sl55⟩)
    (c55 : PySem.W.codeIn K cd55 "Procedure.__eq__" = true)
    (k55 : PySem.W.keepIn K (.ref f55) = true)
    (a56 : PySem.W.findIn K (.ref C) "__str__" = some (some (.ref f56)))
    (i56 : PySem.W.isFn K (.ref f56) = true)
    (l56 : K.lookup f56 = some ⟨oc56, od56, .func (PySem.W.fnOf "__str__" "Procedure.__str__" (defArgs sProcedure__str__) (defBody sProcedure__str__) (defScope sProcedure__str__) .none kV56 dc56 pm56 an56 cd56 ct56), sl56⟩)
    (c56 : PySem.W.codeIn K cd56 "Procedure.__str__" = true)
    (k56 : PySem.W.keepIn K (.ref f56) = true)
    (a57 : PySem.W.findIn K (.ref CP) "__init__" = some (some (.ref f57)))
    (i57 : PySem.W.isFn K (.ref f57) = true)
    (l57 : K.lookup f57 = some ⟨oc57, od57, .func (PySem.W.fnOf "__init__" "Program.__init__" (defArgs sProgram__init__) (defBody sProgram__init__) (defScope sProgram__init__) .none kV57 dc57 pm57 an57 cd57 ct57), sl57⟩)
    (c57 : PySem.W.codeIn K cd57 "Program.__init__" = true)
    (k57 : PySem.W.keepIn K (.ref f57) = true)
    (qfProgramof : PySem.W.findCls K (.ref CP) (.type "type") "of" = some (.get (.builtin "classmethod.__get__") (.ref pc_Programof) .none (.ref CP)))
    (qrProgramof : PySem.W.recIn K pc_Programof "classmethod" = some (.ref f58 :: rc_Programof))
    (qiProgramof : PySem.W.fnIn K f58 = true)
    (qxProgramof : PySem.W.findIn K (.ref CP) "of" = some (some (.ref pc_Programof)))
    (l58 : K.lookup f58 = some ⟨oc58, od58, .func (PySem.W.fnOf "of" "Program.of" (defArgs sProgramof) (defBody sProgramof) (defScope sProgramof) .none kV58 dc58 pm58 an58 cd58 ct58), sl58⟩)
    (c58 : PySem.W.codeIn K cd58 "Program.of" = true)
    (k58 : PySem.W.keepIn K (.ref f58) = true)
    (pa59 : PySem.W.findIn K (.ref CP) "modes" = some (some (.ref p_Programmodes)))
    (pg59 : PySem.W.specialIn K (.ref p_Programmodes) "__get__" = some (some (.builtin "property.__get__")))
    (pt59 : PySem.W.takesIn K (.ref p_Programmodes) = some true)
    (pr59 : PySem.W.recIn K p_Programmodes "property" = some (.ref f59 :: rp_Programmodes))
    (l59 : K.lookup f59 = some ⟨oc59, od59, .func (PySem.W.fnOf "modes" "Program.modes" (defArgs sProgrammodes) (defBody sProgrammodes) (defScope sProgrammodes) .none kV59 dc59 pm59 an59 cd59 ct59), sl59⟩)
    (c59 : PySem.W.codeIn K cd59 "Program.modes" = true)
    (k59 : PySem.W.keepIn K (.ref f59) = true)
    (pa60 : PySem.W.findIn K (.ref CP) "procedures" = some (some (.ref p_Programprocedures)))
    (pg60 : PySem.W.specialIn K (.ref p_Programprocedures) "__get__" = some (some (.builtin "property.__get__")))
    (pt60 : PySem.W.takesIn K (.ref p_Programprocedures) = some true)
    (pr60 : PySem.W.recIn K p_Programprocedures "property" = some (.ref f60 :: rp_Programprocedures))
    (l60 : K.lookup f60 = some ⟨oc60, od60, .func (PySem.W.fnOf "procedures" "Program.procedures" (defArgs sProgramprocedures) (defBody sProgramprocedures) (defScope sProgramprocedures) .none kV60 dc60 pm60 an60 cd60 ct60), sl60⟩)
    (c60 : PySem.W.codeIn K cd60 "Program.procedures" = true)
    (k60 : PySem.W.keepIn K (.ref f60) = true)
    (a61 : PySem.W.findIn K (.ref CP) "__eq__" = some (some (.ref f61)))
    (i61 : PySem.W.isFn K (.ref f61) = true)
    (l61 : K.lookup f61 = some ⟨oc61, od61, .func (PySem.W.fnOf "__eq__" "Program.__eq__" (defArgs sProgram__eq__) (defBody sProgram__eq__) (defScope sProgram__eq__) .none kV61 dc61 pm61 an61 cd61 ct61), sl61⟩)
    (c61 : PySem.W.codeIn K cd61 "Program.__eq__" = true)
    (k61 : PySem.W.keepIn K (.ref f61) = true)
    (a62 : PySem.W.findIn K (.ref CS) "__init__" = some (some (.ref f62)))
    (i62 : PySem.W.isFn K (.ref f62) = true)
    (l62 : K.lookup f62 = some ⟨oc62, od62, .func (PySem.W.fnOf "__init__" "Space.__init__" (defArgs sSpace__init__) (defBody sSpace__init__) (defScope sSpace__init__) .none (.ref kD62) dc62 pm62 an62 cd62 ct62), sl62⟩)
    (c62 : PySem.W.codeIn K cd62 "Space.__init__" = true)
    (k62 : PySem.W.keepIn K (.ref f62) = true)
    (pa63 : PySem.W.findIn K (.ref CS) "size" = some (some (.ref p_Spacesize)))
    (pg63 : PySem.W.specialIn K (.ref p_Spacesize) "__get__" = some (some (.builtin "property.__get__")))
    (pt63 : PySem.W.takesIn K (.ref p_Spacesize) = some true)
    (pr63 : PySem.W.recIn K p_Spacesize "property" = some (.ref f63 :: rp_Spacesize))
    (l63 : K.lookup f63 = some ⟨oc63, od63, .func (PySem.W.fnOf "size" "Space.size" (defArgs sSpacesize) (defBody sSpacesize) (defScope sSpacesize) .none kV63 dc63 pm63 an63 cd63 ct63), sl63⟩)
    (c63 : PySem.W.codeIn K cd63 "Space.size" = true)
    (k63 : PySem.W.keepIn K (.ref f63) = true)
    (a64 : PySem.W.findIn K (.ref CS) "is_table" = some (some (.ref f64)))
    (i64 : PySem.W.isFn K (.ref f64) = true)
    (l64 : K.lookup f64 = some ⟨oc64, od64, .func (PySem.W.fnOf "is_table" "Space.is_table" (defArgs sSpaceis_table) (defBody sSpaceis_table) (defScope sSpaceis_table) .none kV64 dc64 pm64 an64 cd64 ct64), sl64⟩)
    (c64 : PySem.W.codeIn K cd64 "Space.is_table" = true)
    (k64 : PySem.W.keepIn K (.ref f64) = true)
    (z_isinstance : PySem.W.nsIn K mainGlobals "isinstance" = some none)
    (z_str : PySem.W.nsIn K mainGlobals "str" = some none)
    (z_tuple : PySem.W.nsIn K mainGlobals "tuple" = some none)
    (z_list : PySem.W.nsIn K mainGlobals "list" = some none)
    (z_bool : PySem.W.nsIn K mainGlobals "bool" = some none)
    (z_len : PySem.W.nsIn K mainGlobals "len" = some none)
    (z_all : PySem.W.nsIn K mainGlobals "all" = some none)
    (z_int : PySem.W.nsIn K mainGlobals "int" = some none)
    (z_abs : PySem.W.nsIn K mainGlobals "abs" = some none)
    (z_max : PySem.W.nsIn K mainGlobals "max" = some none)
    (z_min : PySem.W.nsIn K mainGlobals "min" = some none)
    (z_range : PySem.W.nsIn K mainGlobals "range" = some none)
    (z_zip : PySem.W.nsIn K mainGlobals "zip" = some none)
    (z_sorted : PySem.W.nsIn K mainGlobals "sorted" = some none)
    (z_set : PySem.W.nsIn K mainGlobals "set" = some none)
    (z_any : PySem.W.nsIn K mainGlobals "any" = some none)
    (z_sum : PySem.W.nsIn K mainGlobals "sum" = some none)
    (z_divmod : PySem.W.nsIn K mainGlobals "divmod" = some none)
    (z_repr : PySem.W.nsIn K mainGlobals "repr" = some none)
    (z_dict : PySem.W.nsIn K mainGlobals "dict" = some none)
    (y_MAX_LETTERS : PySem.W.nsIn K mainGlobals "MAX_LETTERS" = some (some (.int 8 t_MAX_LETTERS)))
    (y_MAX_MODES : PySem.W.nsIn K mainGlobals "MAX_MODES" = some (some (.int 3 t_MAX_MODES)))
    (y_MAX_PARAMETERS : PySem.W.nsIn K mainGlobals "MAX_PARAMETERS" = some (some (.int 3 t_MAX_PARAMETERS)))
    (y_MAX_DEPTH : PySem.W.nsIn K mainGlobals "MAX_DEPTH" = some (some (.int 6 t_MAX_DEPTH)))
    (y_MAX_TERMS : PySem.W.nsIn K mainGlobals "MAX_TERMS" = some (some (.int 40 t_MAX_TERMS)))
    (y_MAX_PROCEDURES : PySem.W.nsIn K mainGlobals "MAX_PROCEDURES" = some (some (.int 8 t_MAX_PROCEDURES)))
    (y_MAX_MODES_WITH_WRAPS : PySem.W.nsIn K mainGlobals "MAX_MODES_WITH_WRAPS" = some (some (.int 2 t_MAX_MODES_WITH_WRAPS)))
    (y_KINDS : PySem.W.nsIn K mainGlobals "KINDS" = some (some (.ref aK)))
    (x_KINDS : K.lookup aK = some ⟨.type "tuple", d_KINDS, .seq #[.str "block" t_KINDS0, .str "wrap" t_KINDS1] n_KINDS, z_KINDS⟩)
    (y_TERM_TAGS : PySem.W.nsIn K mainGlobals "TERM_TAGS" = some (some (.ref aT)))
    (x_TERM_TAGS : K.lookup aT = some ⟨.type "tuple", d_TERM_TAGS, .seq #[.str "do" t_TERM_TAGS0, .str "seq" t_TERM_TAGS1, .str "or" t_TERM_TAGS2, .str "run" t_TERM_TAGS3, .str "call" t_TERM_TAGS4, .str "wrap" t_TERM_TAGS5] n_TERM_TAGS, z_TERM_TAGS⟩)
    (y_WRAP_TAGS : PySem.W.nsIn K mainGlobals "WRAP_TAGS" = some (some (.ref aW)))
    (x_WRAP_TAGS : K.lookup aW = some ⟨.type "tuple", d_WRAP_TAGS, .seq #[.str "own" t_WRAP_TAGS0, .str "with" t_WRAP_TAGS1] n_WRAP_TAGS, z_WRAP_TAGS⟩)
    (aC : PySem.W.nsIn K mainGlobals "Procedure" = some (some (.ref C)))
    (qpgC : PySem.W.plainGet K C Str.empty = true)
    (qhdC : PySem.W.hasDictIn K C = true)
    (qpoC : PySem.W.plainOver K C = true)
    (qsaC : PySem.W.findIn K (.ref C) "__setattr__" = some (some (.builtin "object.__setattr__")))
    (qmkC : PySem.W.makesIn K C = true)
    (qkcC : PySem.W.keepIn K (.ref C) = true)
    (nC_named : PySem.W.findIn K (.ref C) "_named" = some none)
    (nC_parameters : PySem.W.findIn K (.ref C) "_parameters" = some none)
    (nC_body : PySem.W.findIn K (.ref C) "_body" = some none)
    (nC_parts : PySem.W.findIn K (.ref C) "_parts" = some none)
    (nC_kinds : PySem.W.findIn K (.ref C) "_kinds" = some none)
    (nC_words : PySem.W.findIn K (.ref C) "_words" = some none)
    (nC_uses : PySem.W.findIn K (.ref C) "_uses" = some none)
    (qhaC : PySem.W.findIn K (.ref C) "__class__" = some (some (.builtin "object.__class__")))
    (qhmC : PySem.W.mroIn K C (.type "object") = some true)
    (qisC : PySem.W.isClsIn K C = true)
    (qtyC : PySem.W.typeIn K (.ref C) = some (.type "type"))
    (u_CNoneType : PySem.W.subIn K (.type "NoneType") (.ref C) = some false)
    (u_Cbool : PySem.W.subIn K (.type "bool") (.ref C) = some false)
    (u_Cint : PySem.W.subIn K (.type "int") (.ref C) = some false)
    (u_Cstr : PySem.W.subIn K (.type "str") (.ref C) = some false)
    (u_Ctuple : PySem.W.subIn K (.type "tuple") (.ref C) = some false)
    (u_Clist : PySem.W.subIn K (.type "list") (.ref C) = some false)
    (u_Cdict : PySem.W.subIn K (.type "dict") (.ref C) = some false)
    (v_CNoneType : PySem.W.notFirst K C (.type "NoneType") = true)
    (v_Cbool : PySem.W.notFirst K C (.type "bool") = true)
    (v_Cint : PySem.W.notFirst K C (.type "int") = true)
    (v_Cstr : PySem.W.notFirst K C (.type "str") = true)
    (v_Ctuple : PySem.W.notFirst K C (.type "tuple") = true)
    (v_Clist : PySem.W.notFirst K C (.type "list") = true)
    (v_Cdict : PySem.W.notFirst K C (.type "dict") = true)
    (qneC : PySem.W.findIn K (.ref C) "__ne__" = some (some (.builtin "object.__ne__")))
    (qnsC : PySem.W.subIn K (.ref C) (.type "str") = some false)
    (aCP : PySem.W.nsIn K mainGlobals "Program" = some (some (.ref CP)))
    (qpgCP : PySem.W.plainGet K CP Str.empty = true)
    (qhdCP : PySem.W.hasDictIn K CP = true)
    (qpoCP : PySem.W.plainOver K CP = true)
    (qsaCP : PySem.W.findIn K (.ref CP) "__setattr__" = some (some (.builtin "object.__setattr__")))
    (qmkCP : PySem.W.makesIn K CP = true)
    (qkcCP : PySem.W.keepIn K (.ref CP) = true)
    (nCP_modes : PySem.W.findIn K (.ref CP) "_modes" = some none)
    (nCP_procedures : PySem.W.findIn K (.ref CP) "_procedures" = some none)
    (nCP_by_name : PySem.W.findIn K (.ref CP) "_by_name" = some none)
    (nCP_names : PySem.W.findIn K (.ref CP) "_names" = some none)
    (nCP_words : PySem.W.findIn K (.ref CP) "_words" = some none)
    (nCP_has_wraps : PySem.W.findIn K (.ref CP) "_has_wraps" = some none)
    (qhaCP : PySem.W.findIn K (.ref CP) "__class__" = some (some (.builtin "object.__class__")))
    (qhmCP : PySem.W.mroIn K CP (.type "object") = some true)
    (qisCP : PySem.W.isClsIn K CP = true)
    (qtyCP : PySem.W.typeIn K (.ref CP) = some (.type "type"))
    (u_CPNoneType : PySem.W.subIn K (.type "NoneType") (.ref CP) = some false)
    (u_CPbool : PySem.W.subIn K (.type "bool") (.ref CP) = some false)
    (u_CPint : PySem.W.subIn K (.type "int") (.ref CP) = some false)
    (u_CPstr : PySem.W.subIn K (.type "str") (.ref CP) = some false)
    (u_CPtuple : PySem.W.subIn K (.type "tuple") (.ref CP) = some false)
    (u_CPlist : PySem.W.subIn K (.type "list") (.ref CP) = some false)
    (u_CPdict : PySem.W.subIn K (.type "dict") (.ref CP) = some false)
    (v_CPNoneType : PySem.W.notFirst K CP (.type "NoneType") = true)
    (v_CPbool : PySem.W.notFirst K CP (.type "bool") = true)
    (v_CPint : PySem.W.notFirst K CP (.type "int") = true)
    (v_CPstr : PySem.W.notFirst K CP (.type "str") = true)
    (v_CPtuple : PySem.W.notFirst K CP (.type "tuple") = true)
    (v_CPlist : PySem.W.notFirst K CP (.type "list") = true)
    (v_CPdict : PySem.W.notFirst K CP (.type "dict") = true)
    (qneCP : PySem.W.findIn K (.ref CP) "__ne__" = some (some (.builtin "object.__ne__")))
    (qnsCP : PySem.W.subIn K (.ref CP) (.type "str") = some false)
    (qrdCP : PySem.W.readsIn K CP (.type "type") = true)
    (qgaCP : PySem.W.specialIn K (.ref CP) "__getattribute__" = some (some (.builtin "type.__getattribute__")))
    (aCS : PySem.W.nsIn K mainGlobals "Space" = some (some (.ref CS)))
    (qpgCS : PySem.W.plainGet K CS Str.empty = true)
    (qhdCS : PySem.W.hasDictIn K CS = true)
    (qpoCS : PySem.W.plainOver K CS = true)
    (qsaCS : PySem.W.findIn K (.ref CS) "__setattr__" = some (some (.builtin "object.__setattr__")))
    (qmkCS : PySem.W.makesIn K CS = true)
    (qkcCS : PySem.W.keepIn K (.ref CS) = true)
    (nCS_modes : PySem.W.findIn K (.ref CS) "_modes" = some none)
    (nCS_watched : PySem.W.findIn K (.ref CS) "_watched" = some none)
    (nCS_ends : PySem.W.findIn K (.ref CS) "_ends" = some none)
    (nCS_size : PySem.W.findIn K (.ref CS) "_size" = some none)
    (nCS_same : PySem.W.findIn K (.ref CS) "_same" = some none)
    (qhaCS : PySem.W.findIn K (.ref CS) "__class__" = some (some (.builtin "object.__class__")))
    (qhmCS : PySem.W.mroIn K CS (.type "object") = some true)
    (qisCS : PySem.W.isClsIn K CS = true)
    (qtyCS : PySem.W.typeIn K (.ref CS) = some (.type "type"))
    (u_CSNoneType : PySem.W.subIn K (.type "NoneType") (.ref CS) = some false)
    (u_CSbool : PySem.W.subIn K (.type "bool") (.ref CS) = some false)
    (u_CSint : PySem.W.subIn K (.type "int") (.ref CS) = some false)
    (u_CSstr : PySem.W.subIn K (.type "str") (.ref CS) = some false)
    (u_CStuple : PySem.W.subIn K (.type "tuple") (.ref CS) = some false)
    (u_CSlist : PySem.W.subIn K (.type "list") (.ref CS) = some false)
    (u_CSdict : PySem.W.subIn K (.type "dict") (.ref CS) = some false)
    (v_CSNoneType : PySem.W.notFirst K CS (.type "NoneType") = true)
    (v_CSbool : PySem.W.notFirst K CS (.type "bool") = true)
    (v_CSint : PySem.W.notFirst K CS (.type "int") = true)
    (v_CSstr : PySem.W.notFirst K CS (.type "str") = true)
    (v_CStuple : PySem.W.notFirst K CS (.type "tuple") = true)
    (v_CSlist : PySem.W.notFirst K CS (.type "list") = true)
    (v_CSdict : PySem.W.notFirst K CS (.type "dict") = true)
    (qhn : PySem.W.specialIn K (.builtin "object.__class__") "__get__" = some (some (.builtin "getset_descriptor.__get__")))
    (qht : PySem.W.takesIn K (.builtin "object.__class__") = some true)
    (aCI : PySem.W.nsIn K mainGlobals "InvalidProgram" = some (some (.ref CI)))
    (kCI : PySem.W.keepIn K (.ref CI) = true)
    (xCI : PySem.W.excIn K CI [.type "ValueError", .type "Exception", .type "BaseException", .type "object"] "ValueError.__new__" = true)
    (bCI : PySem.W.subIn K (.ref CI) (.type "BaseException") = some true)
    (tCI : PySem.W.typeIn K (.ref CI) = some (.type "type"))
    (icCI : PySem.W.isClsIn K CI = true)
    (sCICI : PySem.W.subIn K (.ref CI) (.ref CI) = some true)
    (kPC : PySem.W.kitOne K (.ref C) (.ref CP) = some false)
    (kCP : PySem.W.kitOne K (.ref CP) (.ref C) = some false)
    (v_selfS : PySem.W.notFirst K CS (.ref CS) = true)
    (qof0 : PySem.W.findIn K (.ref C) "of" = some none)
    (w62 : PySem.W.nsIn K kD62 "watched" = some (some (.bool false)))
    (w26 : PySem.W.nsIn K kD26 "word" = some (some .none))
    (xdT : K.lookup dT = some ⟨.type "tuple", ddT, .seq #[.int 1 ttT] nnT, zzT⟩)
    : ∃ fd : FuncData, (∀ (s : Shared) (v : Value), BindsTo s fd ⟨[v], []⟩ [("_law_script", v)]) ∧ ∀ base : Heap, K.In base → base.Ns mainGlobals mg → FnOk l.prog w K mg base CX0 20 fa fd ["_law_script"] (spLaw K) := by
  have e := hfa.symm.trans (PySem.W.mg_of X G a47)
  cases e
  have ne : CP ≠ C := fun z => by
    rw [z, qof0] at qxProgramof
    cases qxProgramof
  have T : Nm K mg := ⟨PySem.W.mg_none_of X G z_isinstance, PySem.W.mg_none_of X G z_str, PySem.W.mg_none_of X G z_tuple, PySem.W.mg_none_of X G z_list, PySem.W.mg_none_of X G z_bool, PySem.W.mg_none_of X G z_len, PySem.W.mg_none_of X G z_all, PySem.W.mg_none_of X G z_int, PySem.W.mg_none_of X G z_abs, PySem.W.mg_none_of X G z_max, PySem.W.mg_none_of X G z_min, PySem.W.mg_none_of X G z_range, PySem.W.mg_none_of X G z_zip, PySem.W.mg_none_of X G z_sorted, PySem.W.mg_none_of X G z_set, ⟨_, PySem.W.mg_of X G y_MAX_LETTERS⟩, ⟨_, PySem.W.mg_of X G y_MAX_MODES⟩, ⟨_, PySem.W.mg_of X G y_MAX_PARAMETERS⟩, ⟨_, PySem.W.mg_of X G y_MAX_DEPTH⟩, ⟨_, PySem.W.mg_of X G y_MAX_TERMS⟩, ⟨aK, PySem.W.mg_of X G y_KINDS, fun H => .inr ⟨_, _, _, x_KINDS, rfl, rfl, (show 2 ≤ sizeLine by decide), .cons ⟨_, rfl⟩ (.cons ⟨_, rfl⟩ (.nil))⟩⟩, ⟨aT, PySem.W.mg_of X G y_TERM_TAGS, fun H => .inr ⟨_, _, _, x_TERM_TAGS, rfl, rfl, (show 6 ≤ sizeLine by decide), .cons ⟨_, rfl⟩ (.cons ⟨_, rfl⟩ (.cons ⟨_, rfl⟩ (.cons ⟨_, rfl⟩ (.cons ⟨_, rfl⟩ (.cons ⟨_, rfl⟩ (.nil))))))⟩⟩, ⟨aW, PySem.W.mg_of X G y_WRAP_TAGS, fun H => .inr ⟨_, _, _, x_WRAP_TAGS, rfl, rfl, (show 2 ≤ sizeLine by decide), .cons ⟨_, rfl⟩ (.cons ⟨_, rfl⟩ (.nil))⟩⟩⟩
  have TS : SQ.Nm mg := ⟨PySem.W.mg_none_of X G z_isinstance, PySem.W.mg_none_of X G z_int, PySem.W.mg_none_of X G z_bool, PySem.W.mg_none_of X G z_str, PySem.W.mg_none_of X G z_tuple, PySem.W.mg_none_of X G z_list, PySem.W.mg_none_of X G z_len, PySem.W.mg_none_of X G z_all, PySem.W.mg_none_of X G z_sum, PySem.W.mg_none_of X G z_set, PySem.W.mg_none_of X G z_range, PySem.W.mg_none_of X G z_abs, PySem.W.mg_none_of X G z_max, PySem.W.mg_none_of X G z_min, PySem.W.mg_none_of X G z_sorted, PySem.W.mg_none_of X G z_divmod, PySem.W.mg_none_of X G z_repr, PySem.W.mg_none_of X G z_zip, ⟨_, PySem.W.mg_of X G y_MAX_MODES⟩⟩
  have TP : NmP mg := ⟨PySem.W.mg_none_of X G z_any, ⟨_, PySem.W.mg_of X G y_MAX_PROCEDURES⟩, ⟨_, PySem.W.mg_of X G y_MAX_MODES_WITH_WRAPS⟩⟩
  have PC : PrC K mg C := ⟨⟨qpgC, qhdC, qpoC, qsaC⟩, PySem.W.mg_of X G aC, nC_named, nC_parameters, nC_body, nC_parts, nC_kinds, nC_words, nC_uses, qhaC, qhn, qht, qhmC, kit_self⟩
  have PP : PgC K mg CP := ⟨⟨qpgCP, qhdCP, qpoCP, qsaCP⟩, PySem.W.mg_of X G aCP, nCP_modes, nCP_procedures, nCP_by_name, nCP_names, nCP_words, nCP_has_wraps, qhaCP, qhn, qht, qhmCP, kit_self⟩
  have PS : SQ.SpC K mg CS := ⟨⟨qpgCS, qhdCS, qpoCS, qsaCS⟩, PySem.W.mg_of X G aCS, nCS_modes, nCS_watched, nCS_ends, nCS_size, nCS_same, qhaCS, qhn, qht, qhmCS, kit_self, kit_own qisCS qtyCS u_CStuple, v_CStuple, v_selfS⟩
  have NP : NoP K C := ⟨kit_own qisC qtyC u_CNoneType, kit_own qisC qtyC u_Cbool, kit_own qisC qtyC u_Cint, kit_own qisC qtyC u_Cstr, kit_own qisC qtyC u_Ctuple, kit_own qisC qtyC u_Clist, kit_own qisC qtyC u_Cdict, v_CNoneType, v_Cbool, v_Cint, v_Cstr, v_Ctuple, v_Clist, v_Cdict⟩
  have NPP : NoP K CP := ⟨kit_own qisCP qtyCP u_CPNoneType, kit_own qisCP qtyCP u_CPbool, kit_own qisCP qtyCP u_CPint, kit_own qisCP qtyCP u_CPstr, kit_own qisCP qtyCP u_CPtuple, kit_own qisCP qtyCP u_CPlist, kit_own qisCP qtyCP u_CPdict, v_CPNoneType, v_CPbool, v_CPint, v_CPstr, v_CPtuple, v_CPlist, v_CPdict⟩
  have F1 := fun_mk (st := sis_integer_in) l1 c1 k1
  have b1 := F1.binds (ps := ["value", "least", "greatest"]) fun _ _ _ _ _ _ us hl => match us, hl with | [_, _, _], _ => rfl
  have F2 := fun_mk (st := sare_integers_below) l2 c2 k2
  have b2 := F2.binds (ps := ["values", "limit"]) fun _ _ _ _ _ _ us hl => match us, hl with | [_, _], _ => rfl
  have F3 := fun_mk (st := sis_name) l3 c3 k3
  have b3 := F3.binds (ps := ["value"]) fun _ _ _ _ _ _ us hl => match us, hl with | [_], _ => rfl
  have F4 := fun_mk (st := skind_of) l4 c4 k4
  have b4 := F4.binds (ps := ["value"]) fun _ _ _ _ _ _ us hl => match us, hl with | [_], _ => rfl
  have F5 := fun_mk (st := skinds_of) l5 c5 k5
  have b5 := F5.binds (ps := ["arguments"]) fun _ _ _ _ _ _ us hl => match us, hl with | [_], _ => rfl
  have F6 := fun_mk (st := sparts_in) l6 c6 k6
  have b6 := F6.binds (ps := ["part"]) fun _ _ _ _ _ _ us hl => match us, hl with | [_], _ => rfl
  have F7 := fun_mk (st := skinds_in) l7 c7 k7
  have b7 := F7.binds (ps := ["part"]) fun _ _ _ _ _ _ us hl => match us, hl with | [_], _ => rfl
  have F8 := fun_mk (st := sall_parts) l8 c8 k8
  have b8 := F8.binds (ps := ["part"]) fun _ _ _ _ _ _ us hl => match us, hl with | [_], _ => rfl
  have F9 := fun_mk (st := sis_deed_table) l9 c9 k9
  have b9 := F9.binds (ps := ["value"]) fun _ _ _ _ _ _ us hl => match us, hl with | [_], _ => rfl
  have F10 := fun_mk (st := shas_form) l10 c10 k10
  have b10 := F10.binds (ps := ["part", "parameters"]) fun _ _ _ _ _ _ us hl => match us, hl with | [_, _], _ => rfl
  have F11 := fun_mk (st := sis_parameter) l11 c11 k11
  have b11 := F11.binds (ps := ["value"]) fun _ _ _ _ _ _ us hl => match us, hl with | [_], _ => rfl
  have F12 := fun_mk (st := sare_parameters) l12 c12 k12
  have b12 := F12.binds (ps := ["value"]) fun _ _ _ _ _ _ us hl => match us, hl with | [_], _ => rfl
  have F13 := fun_mk (st := sis_term) l13 c13 k13
  have b13 := F13.binds (ps := ["value", "parameters"]) fun _ _ _ _ _ _ us hl => match us, hl with | [_, _], _ => rfl
  have F14 := fun_mk (st := skinds_by_name) l14 c14 k14
  have b14 := F14.binds (ps := ["procedures"]) fun _ _ _ _ _ _ us hl => match us, hl with | [_], _ => rfl
  have F15 := fun_mk (st := shave_wraps) l15 c15 k15
  have b15 := F15.binds (ps := ["procedures"]) fun _ _ _ _ _ _ us hl => match us, hl with | [_], _ => rfl
  have F16 := fun_mk (st := sare_procedures) l16 c16 k16
  have b16 := F16.binds (ps := ["values"]) fun _ _ _ _ _ _ us hl => match us, hl with | [_], _ => rfl
  have F17 := fun_mk (st := sfits) l17 c17 k17
  have b17 := F17.binds (ps := ["part", "modes", "kinds"]) fun _ _ _ _ _ _ us hl => match us, hl with | [_, _, _], _ => rfl
  have F18 := fun_mk (st := scan_make_program) l18 c18 k18
  have b18 := F18.binds (ps := ["modes", "procedures"]) fun _ _ _ _ _ _ us hl => match us, hl with | [_, _], _ => rfl
  have F19 := fun_mk (st := scheck_program) l19 c19 k19
  have b19 := F19.binds (ps := ["value"]) fun _ _ _ _ _ _ us hl => match us, hl with | [_], _ => rfl
  have F20 := fun_mk (st := scheck_word) l20 c20 k20
  have b20 := F20.binds (ps := ["value"]) fun _ _ _ _ _ _ us hl => match us, hl with | [_], _ => rfl
  have F21 := fun_mk (st := scheck_optional_word) l21 c21 k21
  have b21 := F21.binds (ps := ["value"]) fun _ _ _ _ _ _ us hl => match us, hl with | [_], _ => rfl
  have F22 := fun_mk (st := ssame_of) l22 c22 k22
  have b22 := F22.binds (ps := ["modes", "ends"]) fun _ _ _ _ _ _ us hl => match us, hl with | [_, _], _ => rfl
  have F23 := fun_mk (st := sspace_of) l23 c23 k23
  have b23 := F23.binds (ps := ["program", "word"]) fun _ _ _ _ _ _ us hl => match us, hl with | [_, _], _ => rfl
  have F24 := fun_mk (st := shas_context_form) l24 c24 k24
  have b24 := F24.binds (ps := ["kinds_by_name", "space", "value"]) fun _ _ _ _ _ _ us hl => match us, hl with | [_, _, _], _ => rfl
  have F25 := fun_mk (st := skinds_in_b) l25 c25 k25
  have b25 := F25.binds (ps := ["program"]) fun _ _ _ _ _ _ us hl => match us, hl with | [_], _ => rfl
  have F26 : FunD K "is_context" "is_context" (defArgs sis_context) (defBody sis_context) (defScope sis_context) [] [("word", .non)] f26 _ := ⟨⟨_, _, _, _, _, _, _, _, _, _, rfl, l26, c26, .inl ⟨rfl, rfl⟩, .inr ⟨_, rfl, fun q hq => by
    cases List.mem_singleton.mp hq
    exact ⟨_, w26, rfl⟩⟩⟩, k26⟩
  have F27 := fun_mk (st := s_law_sack) l27 c27 k27
  have b27 := F27.binds (ps := ["_law_script", "_law_at"]) fun _ _ _ _ _ _ us hl => match us, hl with | [_, _], _ => rfl
  have F28 := fun_mk (st := s_law_deal) l28 c28 k28
  have b28 := F28.binds (ps := ["_law_sack_here", "_law_size"]) fun _ _ _ _ _ _ us hl => match us, hl with | [_, _], _ => rfl
  have F29 := fun_mk (st := s_law_pick) l29 c29 k29
  have b29 := F29.binds (ps := ["_law_sack_here", "_law_items"]) fun _ _ _ _ _ _ us hl => match us, hl with | [_, _], _ => rfl
  have F30 := fun_mk (st := s_law_deed) l30 c30 k30
  have b30 := F30.binds (ps := ["_law_sack_here", "_law_modes"]) fun _ _ _ _ _ _ us hl => match us, hl with | [_, _], _ => rfl
  have F31 := fun_mk (st := s_law_handed) l31 c31 k31
  have b31 := F31.binds (ps := ["_law_sack_here", "_law_plan", "_law_own", "_law_deep", "_law_kind"]) fun _ _ _ _ _ _ us hl => match us, hl with | [_, _, _, _, _], _ => rfl
  have F32 := fun_mk (st := s_law_call) l32 c32 k32
  have b32 := F32.binds (ps := ["_law_sack_here", "_law_plan", "_law_own", "_law_deep"]) fun _ _ _ _ _ _ us hl => match us, hl with | [_, _, _, _], _ => rfl
  have F33 := fun_mk (st := s_law_term) l33 c33 k33
  have b33 := F33.binds (ps := ["_law_sack_here", "_law_plan", "_law_own", "_law_deep"]) fun _ _ _ _ _ _ us hl => match us, hl with | [_, _, _, _], _ => rfl
  have F34 : FunD K "_law_wild" "_law_wild" (defArgs s_law_wild) (defBody s_law_wild) (defScope s_law_wild) [V.int 1] [] f34 _ := ⟨⟨_, _, _, _, _, _, _, _, _, _, rfl, l34, c34, .inr ⟨List.cons_ne_nil _ _, dT, _, _, _, rfl, xdT, rfl, .cons ⟨_, rfl⟩ .nil⟩, .inl rfl⟩, k34⟩
  have F35 := fun_mk (st := s_law_framed) l35 c35 k35
  have b35 := F35.binds (ps := ["_law_sack_here"]) fun _ _ _ _ _ _ us hl => match us, hl with | [_], _ => rfl
  have F36 := fun_mk (st := s_law_plain) l36 c36 k36
  have b36 := F36.binds (ps := ["_law_sack_here"]) fun _ _ _ _ _ _ us hl => match us, hl with | [_], _ => rfl
  have F37 := fun_mk (st := s_law_made) l37 c37 k37
  have b37 := F37.binds (ps := ["_law_plain_here"]) fun _ _ _ _ _ _ us hl => match us, hl with | [_], _ => rfl
  have F38 := fun_mk (st := s_law_by_name) l38 c38 k38
  have b38 := F38.binds (ps := ["_law_plain_here"]) fun _ _ _ _ _ _ us hl => match us, hl with | [_], _ => rfl
  have F39 := fun_mk (st := s_law_powers) l39 c39 k39
  have b39 := F39.binds (ps := ["_law_many"]) fun _ _ _ _ _ _ us hl => match us, hl with | [_], _ => rfl
  have F40 := fun_mk (st := s_law_space) l40 c40 k40
  have b40 := F40.binds (ps := ["_law_modes", "_law_is_watched"]) fun _ _ _ _ _ _ us hl => match us, hl with | [_, _], _ => rfl
  have F41 := fun_mk (st := s_law_code) l41 c41 k41
  have b41 := F41.binds (ps := ["_law_plain_here", "_law_word"]) fun _ _ _ _ _ _ us hl => match us, hl with | [_, _], _ => rfl
  have F42 := fun_mk (st := s_law_is_relation) l42 c42 k42
  have b42 := F42.binds (ps := ["_law_code_here", "_law_value"]) fun _ _ _ _ _ _ us hl => match us, hl with | [_, _], _ => rfl
  have F43 := fun_mk (st := s_law_is_meaning) l43 c43 k43
  have b43 := F43.binds (ps := ["_law_code_here", "_law_kind", "_law_value"]) fun _ _ _ _ _ _ us hl => match us, hl with | [_, _, _], _ => rfl
  have F44 := fun_mk (st := s_law_due) l44 c44 k44
  have b44 := F44.binds (ps := ["_law_code_here", "_law_value"]) fun _ _ _ _ _ _ us hl => match us, hl with | [_, _], _ => rfl
  have F45 := fun_mk (st := s_law_values) l45 c45 k45
  have b45 := F45.binds (ps := ["_law_sack_here", "_law_code_here"]) fun _ _ _ _ _ _ us hl => match us, hl with | [_, _], _ => rfl
  have F46 := fun_mk (st := s_law_right) l46 c46 k46
  have b46 := F46.binds (ps := ["_law_sack_here"]) fun _ _ _ _ _ _ us hl => match us, hl with | [_], _ => rfl
  have F47 := fun_mk (st := slaw) l47 c47 k47
  have b47 := F47.binds (ps := ["_law_script"]) fun _ _ _ _ _ _ us hl => match us, hl with | [_], _ => rfl
  have F48 := fun_mk (st := sProcedure__init__) l48 c48 k48
  have b48 := F48.binds (ps := ["self", "name", "parameters", "body"]) fun _ _ _ _ _ _ us hl => match us, hl with | [_, _, _, _], _ => rfl
  have F49 := fun_mk (st := sProcedurenamed) l49 c49 k49
  have b49 := F49.binds (ps := ["self"]) fun _ _ _ _ _ _ us hl => match us, hl with | [_], _ => rfl
  have F50 := fun_mk (st := sProcedureparameters) l50 c50 k50
  have b50 := F50.binds (ps := ["self"]) fun _ _ _ _ _ _ us hl => match us, hl with | [_], _ => rfl
  have F51 := fun_mk (st := sProcedurebody) l51 c51 k51
  have b51 := F51.binds (ps := ["self"]) fun _ _ _ _ _ _ us hl => match us, hl with | [_], _ => rfl
  have F52 := fun_mk (st := sProcedurekinds) l52 c52 k52
  have b52 := F52.binds (ps := ["self"]) fun _ _ _ _ _ _ us hl => match us, hl with | [_], _ => rfl
  have F53 := fun_mk (st := sProcedurewords) l53 c53 k53
  have b53 := F53.binds (ps := ["self"]) fun _ _ _ _ _ _ us hl => match us, hl with | [_], _ => rfl
  have F54 := fun_mk (st := sProcedure__len__) l54 c54 k54
  have b54 := F54.binds (ps := ["self"]) fun _ _ _ _ _ _ us hl => match us, hl with | [_], _ => rfl
  have F55 := fun_mk (st := sProcedure__eq__) l55 c55 k55
  have b55 := F55.binds (ps := ["self", "other"]) fun _ _ _ _ _ _ us hl => match us, hl with | [_, _], _ => rfl
  have F56 := fun_mk (st := sProcedure__str__) l56 c56 k56
  have b56 := F56.binds (ps := ["self"]) fun _ _ _ _ _ _ us hl => match us, hl with | [_], _ => rfl
  have F57 := fun_mk (st := sProgram__init__) l57 c57 k57
  have F58 := fun_mk (st := sProgramof) l58 c58 k58
  have b58 := F58.binds (ps := ["cls", "modes", "procedures"]) fun _ _ _ _ _ _ us hl => match us, hl with | [_, _, _], _ => rfl
  have F59 := fun_mk (st := sProgrammodes) l59 c59 k59
  have b59 := F59.binds (ps := ["self"]) fun _ _ _ _ _ _ us hl => match us, hl with | [_], _ => rfl
  have F60 := fun_mk (st := sProgramprocedures) l60 c60 k60
  have b60 := F60.binds (ps := ["self"]) fun _ _ _ _ _ _ us hl => match us, hl with | [_], _ => rfl
  have F61 := fun_mk (st := sProgram__eq__) l61 c61 k61
  have b61 := F61.binds (ps := ["self", "other"]) fun _ _ _ _ _ _ us hl => match us, hl with | [_, _], _ => rfl
  have F62 : FunD K "__init__" "Space.__init__" (defArgs sSpace__init__) (defBody sSpace__init__) (defScope sSpace__init__) [] [("watched", .bl false)] f62 _ := ⟨⟨_, _, _, _, _, _, _, _, _, _, rfl, l62, c62, .inl ⟨rfl, rfl⟩, .inr ⟨_, rfl, fun q hq => by
    cases List.mem_singleton.mp hq
    exact ⟨_, w62, rfl⟩⟩⟩, k62⟩
  have F63 := fun_mk (st := sSpacesize) l63 c63 k63
  have b63 := F63.binds (ps := ["self"]) fun _ _ _ _ _ _ us hl => match us, hl with | [_], _ => rfl
  have F64 := fun_mk (st := sSpaceis_table) l64 c64 k64
  have b64 := F64.binds (ps := ["self", "value"]) fun _ _ _ _ _ _ us hl => match us, hl with | [_, _], _ => rfl
  refine ⟨PySem.W.fnOf "law" "law" (defArgs slaw) (defBody slaw) (defScope slaw) .none kV47 dc47 pm47 an47 cd47 ct47, fun s v => .of_eq rfl, fun base _ _ => ?_⟩
  have BD : Bad K mg CI := ⟨PySem.W.mg_of X G aCI, kCI, xCI, bCI, tCI, exm_is bCI icCI tCI sCICI⟩
  have C_kind_of : Cal l.prog w K mg base 1 "kind_of" ["value"] (spKind K) := ⟨_, _, ok_kind_of F4 T, PySem.W.mg_of X G a4, k4, b4⟩
  have C_parts_in : Cal l.prog w K mg base 1 "parts_in" ["part"] (spParts K) := ⟨_, _, ok_parts_in F6 T, PySem.W.mg_of X G a6, k6, b6⟩
  have C_kinds_in_terms : Cal l.prog w K mg base 3 "kinds_in_terms" ["part"] (spKinds K) := ⟨_, _, ok_kinds_in F7 T C_parts_in, PySem.W.mg_of X G a7, k7, b7⟩
  have C_all_parts := no_all_parts (P := l.prog) (w := w) (base := base) F8 T C_parts_in (PySem.W.mg_of X G a8) k8 b8 7
  have C_is_integer_in : Cal l.prog w K mg base 2 "is_integer_in" ["value", "least", "greatest"] (spIntIn) := ⟨_, _, ok_is_integer_in F1 T, PySem.W.mg_of X G a1, k1, b1⟩
  have C_is_name : Cal l.prog w K mg base 1 "is_name" ["value"] (spName) := ⟨_, _, ok_is_name F3 T, PySem.W.mg_of X G a3, k3, b3⟩
  have C_is_deed_table : Cal l.prog w K mg base 3 "is_deed_table" ["value"] (spTable K) := ⟨_, _, ok_is_deed_table F9 T C_is_integer_in, PySem.W.mg_of X G a9, k9, b9⟩
  have C_has_form : Cal l.prog w K mg base 4 "has_form" ["part", "parameters"] (spForm K) := ⟨_, _, ok_has_form F10 T C_is_name C_is_deed_table, PySem.W.mg_of X G a10, k10, b10⟩
  have C_is_parameter : Cal l.prog w K mg base 2 "is_parameter" ["value"] (spPar K) := ⟨_, _, ok_is_parameter F11 T C_is_name, PySem.W.mg_of X G a11, k11, b11⟩
  have C_are_parameters : Cal l.prog w K mg base 3 "are_parameters" ["value"] (spPars K) := ⟨_, _, ok_are_parameters F12 T C_is_parameter, PySem.W.mg_of X G a12, k12, b12⟩
  have C_is_term : Cal l.prog w K mg base 5 "is_term" ["value", "parameters"] (spTerm K) := ⟨_, _, ok_is_term F13 T C_are_parameters C_kind_of C_has_form C_parts_in C_kinds_in_terms, PySem.W.mg_of X G a13, k13, b13⟩
  have PG : PrG l.prog w K mg base C := ⟨PC, NP, ⟨_, _, ok_Procedure__init__ F48 T PC C_is_name C_is_term C_all_parts, b48, ⟨qmkC, a48, i48, qkcC⟩⟩, ⟨_, _, ok_Procedure__len__ F54 T PC, b54, a54, i54⟩, ⟨_, _, ok_Procedure__eq__ F55 T PC, b55, a55, i55⟩, qneC, ⟨_, _, ok_Procedure__str__ F56 T PC, b56, a56, i56⟩⟩
  have Rnamed : PrP l.prog w K mg base C "named" "_named" := ⟨p_Procedurenamed, _, _, ⟨pa49, pg49, pt49, ⟨_, pr49⟩⟩, ok_Procedurenamed F49 T PC, b49⟩
  have Rparameters : PrP l.prog w K mg base C "parameters" "_parameters" := ⟨p_Procedureparameters, _, _, ⟨pa50, pg50, pt50, ⟨_, pr50⟩⟩, ok_Procedureparameters F50 T PC, b50⟩
  have Rbody : PrP l.prog w K mg base C "body" "_body" := ⟨p_Procedurebody, _, _, ⟨pa51, pg51, pt51, ⟨_, pr51⟩⟩, ok_Procedurebody F51 T PC, b51⟩
  have Rkinds : PrP l.prog w K mg base C "kinds" "_kinds" := ⟨p_Procedurekinds, _, _, ⟨pa52, pg52, pt52, ⟨_, pr52⟩⟩, ok_Procedurekinds F52 T PC, b52⟩
  have Rwords : PrP l.prog w K mg base C "words" "_words" := ⟨p_Procedurewords, _, _, ⟨pa53, pg53, pt53, ⟨_, pr53⟩⟩, ok_Procedurewords F53 T PC, b53⟩
  have Rmodes : PrP l.prog w K mg base CP "modes" "_modes" := ⟨p_Programmodes, _, _, ⟨pa59, pg59, pt59, ⟨_, pr59⟩⟩, ok_Programmodes F59 T PP, b59⟩
  have Rprocedures : PrP l.prog w K mg base CP "procedures" "_procedures" := ⟨p_Programprocedures, _, _, ⟨pa60, pg60, pt60, ⟨_, pr60⟩⟩, ok_Programprocedures F60 T PP, b60⟩
  have Rsize : PrP l.prog w K mg base CS "size" "_size" := ⟨p_Spacesize, _, _, ⟨pa63, pg63, pt63, ⟨_, pr63⟩⟩, ok_Spacesize F63 T PS, b63⟩
  have C_kinds_of : Cal l.prog w K mg base 2 "kinds_of" ["arguments"] (spKindsOf K) := ⟨_, _, ok_kinds_of F5 T C_kind_of, PySem.W.mg_of X G a5, k5, b5⟩
  have C_is_integerG : Cal l.prog w K mg base 2 "is_integer_in" ["value", "least", "greatest"] spIntInG := ⟨_, _, okG_is_integer_in F1 T, PySem.W.mg_of X G a1, k1, b1⟩
  have S_is_integer_in : SQ.Cal l.prog w K mg base 2 "is_integer_in" ["value", "least", "greatest"] (SQ.spIntIn K) := ⟨_, _, SQ.ok_is_integer_in F1 TS, PySem.W.mg_of X G a1, k1, b1⟩
  have S_same_of : SQ.Cal l.prog w K mg base 1 "same_of" ["modes", "ends"] SQ.spSame := ⟨_, _, SQ.ok_same_of F22 TS, PySem.W.mg_of X G a22, k22, b22⟩
  have C_fits : Cal l.prog w K mg base 3 "fits" ["part", "modes", "kinds"] (spFitsG K) := ⟨_, _, ok_fits F17 T C_kinds_of, PySem.W.mg_of X G a17, k17, b17⟩
  have C_have_wraps : Cal l.prog w K mg base 3 "have_wraps" ["procedures"] (spHave K C) := ⟨_, _, ok_have_wraps F15 T TP PG Rkinds, PySem.W.mg_of X G a15, k15, b15⟩
  have C_kinds_by_name : Cal l.prog w K mg base 3 "kinds_by_name" ["procedures"] (spByNameG K C) := ⟨_, _, ok_kinds_by_name F14 T TP PG Rkinds Rnamed, PySem.W.mg_of X G a14, k14, b14⟩
  have C_are_procedures : Cal l.prog w K mg base 4 "are_procedures" ["values"] (spArePsG K C) := ⟨_, _, ok_are_procedures F16 T TP PG NP C_kinds_by_name, PySem.W.mg_of X G a16, k16, b16⟩
  have C_can_make_program : Cal l.prog w K mg base 9 "can_make_program" ["modes", "procedures"] (spCanG K C) := ⟨_, _, ok_can_make_program F18 T TP PG Rbody C_is_integerG C_are_procedures C_have_wraps C_kinds_by_name C_all_parts C_fits, PySem.W.mg_of X G a18, k18, b18⟩
  have FI : FnR l.prog w K mg base (L2.CX l.prog w) 10 f57 (spPgInitG K CP C CI) := ok_Program__init__G F57 T BD ne PP PG Rnamed Rwords C_can_make_program C_have_wraps
  have MI : Mk K CP f57 := ⟨qmkCP, a57, i57, qkcCP⟩
  have FO : FnR l.prog w K mg base (L2.CX l.prog w) 12 f58 (spPgOfG K CP C CI) := ((ok_Programof_G F58 T BD PP MI FI).raw b58 .nil).imp fun vs H Q E h => by rw [List.append_nil]; exact h
  have GG : PgM l.prog w K mg base CP C CI := ⟨PP, ⟨_, FI, MI⟩, ⟨_, _, _, ⟨qrdCP, qgaCP⟩, ⟨qfProgramof, ⟨_, qrProgramof⟩, qiProgramof⟩, FO⟩, ⟨_, _, ok_Program__eq__ F61 T PP PG, b61, a61, i61⟩, NPP⟩
  have C_check_program : Cal l.prog w K mg base 1 "check_program" ["value"] (spChkX K CP C) := ⟨_, _, ok_check_program F19 T PP, PySem.W.mg_of X G a19, k19, b19⟩
  have C_check_word : Cal l.prog w K mg base 2 "check_word" ["value"] (spWord) := ⟨_, _, ok_check_word F20 T C_is_name, PySem.W.mg_of X G a20, k20, b20⟩
  have C_check_optional_word : Cal l.prog w K mg base 3 "check_optional_word" ["value"] (spOptW) := ⟨_, _, ok_check_optional_word F21 T C_check_word, PySem.W.mg_of X G a21, k21, b21⟩
  have C_are_integers_below : Cal l.prog w K mg base 1 "are_integers_below" ["values", "limit"] (spBelowA K) := ⟨_, _, ok_belowA F2 T, PySem.W.mg_of X G a2, k2, b2⟩
  have Mtbl : SQ.MCal l.prog w K mg base CS 2 "is_table" ["self", "value"] (spIsTblA CS K) := ⟨_, _, ok_Spaceis_table F64 T PS C_are_integers_below, ⟨a64, i64, k64⟩, b64⟩
  have GS : SpN l.prog w K mg base CS := ⟨PS, _, _, SQ.ok_Space__init__ F62 TS PS S_is_integer_in S_same_of, ⟨qmkCS, a62, i62, qkcCS⟩, (SQ.init_binds F62).2⟩
  have C_space_of : Cal l.prog w K mg base 5 "space_of" ["program", "word"] (spSpaceOf K CP C CS) := ⟨_, _, ok_space_of F23 T PP GS Rmodes, PySem.W.mg_of X G a23, k23, b23⟩
  have C_kinds_in_reckoning : Cal l.prog w K mg base 3 "kinds_in_reckoning" ["program"] (spKindsR K CP C) := ⟨_, _, ok_kinds_in_b F25 T PP PG Rprocedures Rkinds Rnamed, PySem.W.mg_of X G a25, k25, b25⟩
  have C_has_context_form : Cal l.prog w K mg base 3 "has_context_form" ["kinds_by_name", "space", "value"] (spFormC CS K) := ⟨_, _, ok_has_context_form F24 T PS Rsize Mtbl C_are_integers_below, PySem.W.mg_of X G a24, k24, b24⟩
  have W_is_context : CalW l.prog w K mg base 6 "is_context" ["program", "value", "word"] 2 ["word"] (spCtx K CP C) := ⟨_, _, ok_is_context F26 T C_check_program C_check_optional_word C_kinds_in_reckoning C_space_of C_has_context_form, PySem.W.mg_of X G a26, k26, ctx_binds F26⟩
  have C__law_sack : Cal l.prog w K mg base 1 "_law_sack" ["_law_script", "_law_at"] (spNumbers K) := ⟨_, _, ok_l_sack F27 T, PySem.W.mg_of X G a27, k27, b27⟩
  have C__law_deal : Cal l.prog w K mg base 1 "_law_deal" ["_law_sack_here", "_law_size"] (spCast) := ⟨_, _, ok_l_deal F28 T, PySem.W.mg_of X G a28, k28, b28⟩
  have C__law_pick : Cal l.prog w K mg base 2 "_law_pick" ["_law_sack_here", "_law_items"] (spPick K) := ⟨_, _, ok_l_pick F29 T C__law_deal, PySem.W.mg_of X G a29, k29, b29⟩
  have C__law_deed : Cal l.prog w K mg base 3 "_law_deed" ["_law_sack_here", "_law_modes"] (spDeedK K) := ⟨_, _, ok_l_deed F30 T C__law_pick, PySem.W.mg_of X G a30, k30, b30⟩
  have TT := (drawersK (P := l.prog) (w := w) (base := base) F33 F31 F32 T (PySem.W.mg_of X G a33) (PySem.W.mg_of X G a31) (PySem.W.mg_of X G a32) k33 k31 k32 b33 b31 b32 C__law_deal C__law_pick C__law_deed 3 (by decide)).1
  obtain ⟨dsW, rvW, bW⟩ := wild_binds F34
  have D__law_wild : CalD l.prog w K mg base 17 "_law_wild" ["_law_sack_here", "_law_least"] (spPlainK K [V.int 1]) [V.int 1] := ⟨_, _, dsW, ok_l_wild F34 T C__law_deal C__law_pick TT, PySem.W.mg_of X G a34, k34, rvW, bW⟩
  have C__law_framed : Cal l.prog w K mg base 4 "_law_framed" ["_law_sack_here"] (spPlainK K []) := ⟨_, _, ok_l_framed F35 T C__law_deal C__law_deed, PySem.W.mg_of X G a35, k35, b35⟩
  have C__law_plain : Cal l.prog w K mg base 18 "_law_plain" ["_law_sack_here"] (spPlainK K []) := ⟨_, _, ok_l_plain F36 T C__law_deal C__law_framed D__law_wild, PySem.W.mg_of X G a36, k36, b36⟩
  have C__law_made : Cal l.prog w K mg base 13 "_law_made" ["_law_plain_here"] (spMadeK K CP C) := ⟨_, _, ok_l_made F37 T BD GG PG, PySem.W.mg_of X G a37, k37, b37⟩
  have C__law_by_name : Cal l.prog w K mg base 1 "_law_by_name" ["_law_plain_here"] (spByNameL K) := ⟨_, _, ok_l_by_name F38 T (PySem.W.mg_none_of X G z_dict), PySem.W.mg_of X G a38, k38, b38⟩
  have C__law_powers : Cal l.prog w K mg base 1 "_law_powers" ["_law_many"] (spPow) := ⟨_, _, ok_l_powers F39 T, PySem.W.mg_of X G a39, k39, b39⟩
  have C__law_space : Cal l.prog w K mg base 2 "_law_space" ["_law_modes", "_law_is_watched"] (spSpaceL) := ⟨_, _, ok_l_space F40 T C__law_powers, PySem.W.mg_of X G a40, k40, b40⟩
  have C__law_code : Cal l.prog w K mg base 3 "_law_code" ["_law_plain_here", "_law_word"] (spCodeL K) := ⟨_, _, ok_l_code F41 T C__law_by_name C__law_space, PySem.W.mg_of X G a41, k41, b41⟩
  have C__law_is_relation : Cal l.prog w K mg base 1 "_law_is_relation" ["_law_code_here", "_law_value"] (spIsRelL K) := ⟨_, _, ok_l_is_relation F42 T, PySem.W.mg_of X G a42, k42, b42⟩
  have C__law_is_meaning : Cal l.prog w K mg base 2 "_law_is_meaning" ["_law_code_here", "_law_kind", "_law_value"] (spIsMeanL K) := ⟨_, _, ok_l_is_meaning F43 T C__law_is_relation, PySem.W.mg_of X G a43, k43, b43⟩
  have C__law_due : Cal l.prog w K mg base 3 "_law_due" ["_law_code_here", "_law_value"] (spDueC K) := ⟨_, _, ok_l_due F44 T C__law_is_meaning, PySem.W.mg_of X G a44, k44, b44⟩
  have C__law_values : Cal l.prog w K mg base 3 "_law_values" ["_law_sack_here", "_law_code_here"] (spValsC K) := ⟨_, _, ok_l_values F45 T C__law_deal C__law_pick, PySem.W.mg_of X G a45, k45, b45⟩
  have C__law_right : Cal l.prog w K mg base 19 "_law_right" ["_law_sack_here"] (spRight) := ⟨_, _, ok_l_right F46 T (PySem.W.mg_none_of X G z_repr) C__law_plain C__law_made C__law_pick C__law_code C__law_values C__law_due W_is_context, PySem.W.mg_of X G a46, k46, b46⟩
  exact ok_law F47 T C__law_sack C__law_right
end FS
section
set_option maxHeartbeats 0
/-! The head by kernel runs, one for each thing that is looked at (own work). -/
namespace HdS
open PySem PySem.W PySem.Calls PyProof.Rows HandSHeadRun
theorem spl {S : Type} {x : Option S} {α β : Type} {a : S → α} {b : S → β} {A : α} {B : β} (h1 : x.map a = some A) (h2 : x.map b = some B) : x.map (fun s => (a s, b s)) = some (A, B) := by
  cases x with
  | none => cases h1
  | some s => cases h1; cases h2; rfl
theorem spl2 {S : Type} {x : Option S} {α β : Type} {a : S → α × β} {A : α} {B : β} (h1 : x.map (fun s => (a s).1) = some A) (h2 : x.map (fun s => (a s).2) = some B) : x.map a = some (A, B) := by
  cases x with
  | none => cases h1
  | some s => cases h1; cases h2; rfl
noncomputable abbrev stE (r : OpenRow) (M : Nat) (w : World) (os : OsState) : Option SharedT := endF (stepQ (denQ tabQ) r.prog w) M r.prog w os
noncomputable abbrev seE (r : OpenRow) (q : Program) (loose : List PySem.Str) (s : SharedT) := seenQ q loose (importedModules r.prog.main.body) (fun s => xlAt q [] s && recOk r.toRowW.records s) s.abs
/-- what the runs say, but for K's objects -/
structure Runs (r : OpenRow) (q : Program) (loose : List PySem.Str) (M : Nat) : Prop where
  r0 : ∀ w os, (stE r M w os).map (fun s => looksF r.prog (boot_heap w.params) s.abs) = some true
  r1 : ∀ w os, (stE r M w os).map (fun s => (seE r q loose s).1) = some (expectedOf q)
  r2 : ∀ w os, (stE r M w os).map (fun s => (seE r q loose s).2.1) = some bltViewBooted
  r3 : ∀ w os, (stE r M w os).map (fun s => (seE r q loose s).2.2.1) = some true
  r4 : ∀ w os, (stE r M w os).map (fun s => (seE r q loose s).2.2.2.1) = some true
  r5 : ∀ w os, (stE r M w os).map (fun s => (seE r q loose s).2.2.2.2.1) = some (pinGoodD (drecsOf q))
  r6 : ∀ w os, (stE r M w os).map (fun s => (seE r q loose s).2.2.2.2.2.1) = some (plainGoodE q (looseW q loose))
  r7 : ∀ w os, (stE r M w os).map (fun s => (seE r q loose s).2.2.2.2.2.2.1) = some (plainGoodD q loose)
  r8 : ∀ w os, (stE r M w os).map (fun s => (seE r q loose s).2.2.2.2.2.2.2.1) = some (wideGood q)
  r9 : ∀ w os, (stE r M w os).map (fun s => (seE r q loose s).2.2.2.2.2.2.2.2) = some (clsGoodW q loose)
theorem head {r : OpenRow} {q : Program} {H : Hook} {K : Params → Frag} {as : List Addr} {ek : ∀ P, as = (K P).map (·.1)} {M : Nat} {loose : List PySem.Str} {d : DefRec} {kwd : List (PySem.Str × PySem.Expr)}
    (eH : H = kHook K as ek) (R : Runs r q loose M)
    (rK : ∀ w os, (stE r M w os).map (fun s => as.map (getT s)) = some ((K w.params).map fun x => some x.2))
    (e : opening r.prog = plainProg r.prog.main.scope.names) (f : ∀ s, fenceModules? r.prog s = some s)
    (hdef : defOf q r.name = some (d, kwd)) (hp : r.prog.theDef r.name = some (d.params, d.body, d.scope)) (hk : kwWritten? d.params.kwonlyargs d.params.kw_defaults = some kwd)
    (hwr : (!r.writes || r.records.isEmpty) = true) (k1 : r.wellSaid = true) (ok : (chainsOk q && opensWell r.prog && (frees r.toRowW && r.within.isEmpty)) = true) (hb : r.prog.bare) (hw : r.toRowW.promised)
    (call : WalkO q loose (XL q []) H.says r.toRowW d kwd fun f vs => PySem.call f vs) : r.Holds := by
  subst eH
  refine head_any (r := r) (q := q) (H := kHook K as ek) (ob := fun s => as.map (getT s)) (M := M) (loose := loose) (d := d) (kwd := kwd) (fun s => List.map_congr_left fun a _ => getT_eq s a) e f (fun w os => ?_) hdef hp hk hwr k1 ok hb hw call
  exact spl (R.r0 w os) (spl (spl2 (R.r1 w os) (spl2 (R.r2 w os) (spl2 (R.r3 w os) (spl2 (R.r4 w os) (spl2 (R.r5 w os) (spl2 (R.r6 w os) (spl2 (R.r7 w os) (spl2 (R.r8 w os) (R.r9 w os))))))))) (rK w os))
end HdS
namespace HdK
open PySem PySem.W PySem.Calls PyProof.Rows HandSHeadRun
abbrev R : OpenRow := OpenLaw.row PySem.Challenge.rw_blockshanded_k28_contexts_judged
def kp0 : List Nat := [0, 2, 3, 5, 6, 8, 9, 10, 11, 12, 13, 14, 16, 17, 18, 19, 21, 22, 23, 24, 25, 26, 28, 29, 30, 31, 32, 33, 34, 36, 37, 38, 39, 40, 41, 42, 43, 45, 46, 47]
def kp1 : List Nat := [49, 50, 52, 54, 55, 56, 57, 60, 61, 62, 63, 64, 65, 66, 68, 69, 70, 71, 72, 73, 74, 75, 76, 77, 78, 79, 80]
def kp : List Nat := kp0 ++ kp1
def lo0 : List PySem.Str := ["kinds_in_terms", "Procedure", "Program", "Space", "kinds_in_reckoning", "is_context", "_law_wild"]
def lo : List PySem.Str := lo0
def q : Program := view R.prog kp
theorem k0 (w : World) (os : OsState) : (HdS.stE R 6200 w os).map (fun s => looksF R.prog (boot_heap w.params) s.abs) = some true := by kernel_rfl
theorem k1 (w : World) (os : OsState) : (HdS.stE R 6200 w os).map (fun s => (HdS.seE R q lo s).1) = some (expectedOf q) := by kernel_rfl
theorem k2 (w : World) (os : OsState) : (HdS.stE R 6200 w os).map (fun s => (HdS.seE R q lo s).2.1) = some (bltViewBooted) := by kernel_rfl
theorem k3 (w : World) (os : OsState) : (HdS.stE R 6200 w os).map (fun s => (HdS.seE R q lo s).2.2.1) = some (true) := by kernel_rfl
theorem k4 (w : World) (os : OsState) : (HdS.stE R 6200 w os).map (fun s => (HdS.seE R q lo s).2.2.2.1) = some (true) := by kernel_rfl
theorem k5 (w : World) (os : OsState) : (HdS.stE R 6200 w os).map (fun s => (HdS.seE R q lo s).2.2.2.2.1) = some (pinGoodD (drecsOf q)) := by kernel_rfl
theorem k6 (w : World) (os : OsState) : (HdS.stE R 6200 w os).map (fun s => (HdS.seE R q lo s).2.2.2.2.2.1) = some (plainGoodE q (looseW q lo)) := by kernel_rfl
theorem k7 (w : World) (os : OsState) : (HdS.stE R 6200 w os).map (fun s => (HdS.seE R q lo s).2.2.2.2.2.2.1) = some (plainGoodD q lo) := by kernel_rfl
theorem k8 (w : World) (os : OsState) : (HdS.stE R 6200 w os).map (fun s => (HdS.seE R q lo s).2.2.2.2.2.2.2.1) = some (wideGood q) := by kernel_rfl
theorem k9 (w : World) (os : OsState) : (HdS.stE R 6200 w os).map (fun s => (HdS.seE R q lo s).2.2.2.2.2.2.2.2) = some (clsGoodW q lo) := by kernel_rfl
theorem runs : HdS.Runs R q lo 6200 := ⟨k0, k1, k2, k3, k4, k5, k6, k7, k8, k9⟩
theorem opn : opening R.prog = plainProg R.prog.main.scope.names := by kernel_rfl
theorem fnc (s : Shared) : fenceModules? R.prog s = some s := by kernel_rfl
def d : DefRec := topDef R.prog 80
theorem hd : defOf q R.name = some (d, []) := by kernel_rfl
theorem hp : R.prog.theDef R.name = some (d.params, d.body, d.scope) := by kernel_rfl
theorem hkw : kwWritten? d.params.kwonlyargs d.params.kw_defaults = some [] := by kernel_rfl
theorem hn : d.name = ("law" : PySem.Str) := by kernel_rfl
end HdK
end
set_option Elab.async false
set_option linter.all false
set_option maxRecDepth 100000
open PySem PySem.W PyProof.Rows
local macro_rules | `(tactic| o_headL $H) => `(tactic| refine HdS.head (r := HdK.R) (q := HdK.q) (H := $H) (M := 6200) (loose := HdK.lo) (d := HdK.d) (kwd := []) rfl HdK.runs (fun w os => by kernel_rfl) HdK.opn HdK.fnc HdK.hd HdK.hp HdK.hkw (by rfl) (by first | assumption | decide +kernel) (by decide +kernel) ⟨rfl, rfl, rfl, rfl, rfl, by decide +kernel⟩ ?_ ?_)
set_option maxHeartbeats 0 in
theorem PySem.Challenge.cw_blockshanded_k28_contexts_judged_holds : PySem.Challenge.rw_blockshanded_k28_contexts_judged.Holds := by
  w_on; o_law; k_headL
  · w_witness2
  k_fill
  refine L2.walk_of (l := PySem.Challenge.rw_blockshanded_k28_contexts_judged) (n := 63) (k := 20) (x := "_law_script") (CX := fun _ => L2.CX0) (sp := fun w => FS.spLaw _) rfl (by decide) (by kernel_rfl) ⟨rfl, by decide, by decide⟩ (fun w h Y => PySem.W.kIn_of Y) ?F (fun _ _ a ns hl _ hS => ⟨a, ns, rfl, hS, hl, fun _ => rfl⟩) (fun _ _ _ _ _ h => h)
  case F =>
    intro w mg fa h KX G hmg
    rw [HdK.hn] at hmg
    refine' FS.all_mk KX G hmg ?a1 ?l1 ?c1 ?k1 ?a2 ?l2 ?c2 ?k2 ?a3 ?l3 ?c3 ?k3 ?a4 ?l4 ?c4 ?k4 ?a5 ?l5 ?c5 ?k5 ?a6 ?l6 ?c6 ?k6 ?a7 ?l7 ?c7 ?k7 ?a8 ?l8 ?c8 ?k8 ?a9 ?l9 ?c9 ?k9 ?a10 ?l10 ?c10 ?k10 ?a11 ?l11 ?c11 ?k11 ?a12 ?l12 ?c12 ?k12 ?a13 ?l13 ?c13 ?k13 ?a14 ?l14 ?c14 ?k14 ?a15 ?l15 ?c15 ?k15 ?a16 ?l16 ?c16 ?k16 ?a17 ?l17 ?c17 ?k17 ?a18 ?l18 ?c18 ?k18 ?a19 ?l19 ?c19 ?k19 ?a20 ?l20 ?c20 ?k20 ?a21 ?l21 ?c21 ?k21 ?a22 ?l22 ?c22 ?k22 ?a23 ?l23 ?c23 ?k23 ?a24 ?l24 ?c24 ?k24 ?a25 ?l25 ?c25 ?k25 ?a26 ?l26 ?c26 ?k26 ?a27 ?l27 ?c27 ?k27 ?a28 ?l28 ?c28 ?k28 ?a29 ?l29 ?c29 ?k29 ?a30 ?l30 ?c30 ?k30 ?a31 ?l31 ?c31 ?k31 ?a32 ?l32 ?c32 ?k32 ?a33 ?l33 ?c33 ?k33 ?a34 ?l34 ?c34 ?k34 ?a35 ?l35 ?c35 ?k35 ?a36 ?l36 ?c36 ?k36 ?a37 ?l37 ?c37 ?k37 ?a38 ?l38 ?c38 ?k38 ?a39 ?l39 ?c39 ?k39 ?a40 ?l40 ?c40 ?k40 ?a41 ?l41 ?c41 ?k41 ?a42 ?l42 ?c42 ?k42 ?a43 ?l43 ?c43 ?k43 ?a44 ?l44 ?c44 ?k44 ?a45 ?l45 ?c45 ?k45 ?a46 ?l46 ?c46 ?k46 ?a47 ?l47 ?c47 ?k47 ?a48 ?i48 ?l48 ?c48 ?k48 ?pa49 ?pg49 ?pt49 ?pr49 ?l49 ?c49 ?k49 ?pa50 ?pg50 ?pt50 ?pr50 ?l50 ?c50 ?k50 ?pa51 ?pg51 ?pt51 ?pr51 ?l51 ?c51 ?k51 ?pa52 ?pg52 ?pt52 ?pr52 ?l52 ?c52 ?k52 ?pa53 ?pg53 ?pt53 ?pr53 ?l53 ?c53 ?k53 ?a54 ?i54 ?l54 ?c54 ?k54 ?a55 ?i55 ?l55 ?c55 ?k55 ?a56 ?i56 ?l56 ?c56 ?k56 ?a57 ?i57 ?l57 ?c57 ?k57 ?qfProgramof ?qrProgramof ?qiProgramof ?qxProgramof ?l58 ?c58 ?k58 ?pa59 ?pg59 ?pt59 ?pr59 ?l59 ?c59 ?k59 ?pa60 ?pg60 ?pt60 ?pr60 ?l60 ?c60 ?k60 ?a61 ?i61 ?l61 ?c61 ?k61 ?a62 ?i62 ?l62 ?c62 ?k62 ?pa63 ?pg63 ?pt63 ?pr63 ?l63 ?c63 ?k63 ?a64 ?i64 ?l64 ?c64 ?k64 ?z_isinstance ?z_str ?z_tuple ?z_list ?z_bool ?z_len ?z_all ?z_int ?z_abs ?z_max ?z_min ?z_range ?z_zip ?z_sorted ?z_set ?z_any ?z_sum ?z_divmod ?z_repr ?z_dict ?y_MAX_LETTERS ?y_MAX_MODES ?y_MAX_PARAMETERS ?y_MAX_DEPTH ?y_MAX_TERMS ?y_MAX_PROCEDURES ?y_MAX_MODES_WITH_WRAPS ?y_KINDS ?x_KINDS ?y_TERM_TAGS ?x_TERM_TAGS ?y_WRAP_TAGS ?x_WRAP_TAGS ?aC ?qpgC ?qhdC ?qpoC ?qsaC ?qmkC ?qkcC ?nC_named ?nC_parameters ?nC_body ?nC_parts ?nC_kinds ?nC_words ?nC_uses ?qhaC ?qhmC ?qisC ?qtyC ?u_CNoneType ?u_Cbool ?u_Cint ?u_Cstr ?u_Ctuple ?u_Clist ?u_Cdict ?v_CNoneType ?v_Cbool ?v_Cint ?v_Cstr ?v_Ctuple ?v_Clist ?v_Cdict ?qneC ?qnsC ?aCP ?qpgCP ?qhdCP ?qpoCP ?qsaCP ?qmkCP ?qkcCP ?nCP_modes ?nCP_procedures ?nCP_by_name ?nCP_names ?nCP_words ?nCP_has_wraps ?qhaCP ?qhmCP ?qisCP ?qtyCP ?u_CPNoneType ?u_CPbool ?u_CPint ?u_CPstr ?u_CPtuple ?u_CPlist ?u_CPdict ?v_CPNoneType ?v_CPbool ?v_CPint ?v_CPstr ?v_CPtuple ?v_CPlist ?v_CPdict ?qneCP ?qnsCP ?qrdCP ?qgaCP ?aCS ?qpgCS ?qhdCS ?qpoCS ?qsaCS ?qmkCS ?qkcCS ?nCS_modes ?nCS_watched ?nCS_ends ?nCS_size ?nCS_same ?qhaCS ?qhmCS ?qisCS ?qtyCS ?u_CSNoneType ?u_CSbool ?u_CSint ?u_CSstr ?u_CStuple ?u_CSlist ?u_CSdict ?v_CSNoneType ?v_CSbool ?v_CSint ?v_CSstr ?v_CStuple ?v_CSlist ?v_CSdict ?qhn ?qht ?aCI ?kCI ?xCI ?bCI ?tCI ?icCI ?sCICI ?kPC ?kCP ?v_selfS ?qof0 ?w62 ?w26 ?xdT
    (case aC => k_is)
    (case aCP => k_is)
    (case aCS => k_is)
    (case aCI => k_is)
    (case a1 => k_is)
    (case l1 => k_is)
    (case c1 => k_is)
    (case k1 => k_is)
    (case a2 => k_is)
    (case l2 => k_is)
    (case c2 => k_is)
    (case k2 => k_is)
    (case a3 => k_is)
    (case l3 => k_is)
    (case c3 => k_is)
    (case k3 => k_is)
    (case a4 => k_is)
    (case l4 => k_is)
    (case c4 => k_is)
    (case k4 => k_is)
    (case a5 => k_is)
    (case l5 => k_is)
    (case c5 => k_is)
    (case k5 => k_is)
    (case a6 => k_is)
    (case l6 => k_is)
    (case c6 => k_is)
    (case k6 => k_is)
    (case a7 => k_is)
    (case l7 => k_is)
    (case c7 => k_is)
    (case k7 => k_is)
    (case a8 => k_is)
    (case l8 => k_is)
    (case c8 => k_is)
    (case k8 => k_is)
    (case a9 => k_is)
    (case l9 => k_is)
    (case c9 => k_is)
    (case k9 => k_is)
    (case a10 => k_is)
    (case l10 => k_is)
    (case c10 => k_is)
    (case k10 => k_is)
    (case a11 => k_is)
    (case l11 => k_is)
    (case c11 => k_is)
    (case k11 => k_is)
    (case a12 => k_is)
    (case l12 => k_is)
    (case c12 => k_is)
    (case k12 => k_is)
    (case a13 => k_is)
    (case l13 => k_is)
    (case c13 => k_is)
    (case k13 => k_is)
    (case a14 => k_is)
    (case l14 => k_is)
    (case c14 => k_is)
    (case k14 => k_is)
    (case a15 => k_is)
    (case l15 => k_is)
    (case c15 => k_is)
    (case k15 => k_is)
    (case a16 => k_is)
    (case l16 => k_is)
    (case c16 => k_is)
    (case k16 => k_is)
    (case a17 => k_is)
    (case l17 => k_is)
    (case c17 => k_is)
    (case k17 => k_is)
    (case a18 => k_is)
    (case l18 => k_is)
    (case c18 => k_is)
    (case k18 => k_is)
    (case a19 => k_is)
    (case l19 => k_is)
    (case c19 => k_is)
    (case k19 => k_is)
    (case a20 => k_is)
    (case l20 => k_is)
    (case c20 => k_is)
    (case k20 => k_is)
    (case a21 => k_is)
    (case l21 => k_is)
    (case c21 => k_is)
    (case k21 => k_is)
    (case a22 => k_is)
    (case l22 => k_is)
    (case c22 => k_is)
    (case k22 => k_is)
    (case a23 => k_is)
    (case l23 => k_is)
    (case c23 => k_is)
    (case k23 => k_is)
    (case a24 => k_is)
    (case l24 => k_is)
    (case c24 => k_is)
    (case k24 => k_is)
    (case a25 => k_is)
    (case l25 => k_is)
    (case c25 => k_is)
    (case k25 => k_is)
    (case a26 => k_is)
    (case l26 => k_is)
    (case c26 => k_is)
    (case k26 => k_is)
    (case a27 => k_is)
    (case l27 => k_is)
    (case c27 => k_is)
    (case k27 => k_is)
    (case a28 => k_is)
    (case l28 => k_is)
    (case c28 => k_is)
    (case k28 => k_is)
    (case a29 => k_is)
    (case l29 => k_is)
    (case c29 => k_is)
    (case k29 => k_is)
    (case a30 => k_is)
    (case l30 => k_is)
    (case c30 => k_is)
    (case k30 => k_is)
    (case a31 => k_is)
    (case l31 => k_is)
    (case c31 => k_is)
    (case k31 => k_is)
    (case a32 => k_is)
    (case l32 => k_is)
    (case c32 => k_is)
    (case k32 => k_is)
    (case a33 => k_is)
    (case l33 => k_is)
    (case c33 => k_is)
    (case k33 => k_is)
    (case a34 => k_is)
    (case l34 => k_is)
    (case c34 => k_is)
    (case k34 => k_is)
    (case a35 => k_is)
    (case l35 => k_is)
    (case c35 => k_is)
    (case k35 => k_is)
    (case a36 => k_is)
    (case l36 => k_is)
    (case c36 => k_is)
    (case k36 => k_is)
    (case a37 => k_is)
    (case l37 => k_is)
    (case c37 => k_is)
    (case k37 => k_is)
    (case a38 => k_is)
    (case l38 => k_is)
    (case c38 => k_is)
    (case k38 => k_is)
    (case a39 => k_is)
    (case l39 => k_is)
    (case c39 => k_is)
    (case k39 => k_is)
    (case a40 => k_is)
    (case l40 => k_is)
    (case c40 => k_is)
    (case k40 => k_is)
    (case a41 => k_is)
    (case l41 => k_is)
    (case c41 => k_is)
    (case k41 => k_is)
    (case a42 => k_is)
    (case l42 => k_is)
    (case c42 => k_is)
    (case k42 => k_is)
    (case a43 => k_is)
    (case l43 => k_is)
    (case c43 => k_is)
    (case k43 => k_is)
    (case a44 => k_is)
    (case l44 => k_is)
    (case c44 => k_is)
    (case k44 => k_is)
    (case a45 => k_is)
    (case l45 => k_is)
    (case c45 => k_is)
    (case k45 => k_is)
    (case a46 => k_is)
    (case l46 => k_is)
    (case c46 => k_is)
    (case k46 => k_is)
    (case a47 => k_is)
    (case l47 => k_is)
    (case c47 => k_is)
    (case k47 => k_is)
    (case a48 => k_is)
    (case i48 => k_is)
    (case l48 => k_is)
    (case c48 => k_is)
    (case k48 => k_is)
    (case pa49 => k_is)
    (case pg49 => k_is)
    (case pt49 => k_is)
    (case pr49 => k_is)
    (case l49 => k_is)
    (case c49 => k_is)
    (case k49 => k_is)
    (case pa50 => k_is)
    (case pg50 => k_is)
    (case pt50 => k_is)
    (case pr50 => k_is)
    (case l50 => k_is)
    (case c50 => k_is)
    (case k50 => k_is)
    (case pa51 => k_is)
    (case pg51 => k_is)
    (case pt51 => k_is)
    (case pr51 => k_is)
    (case l51 => k_is)
    (case c51 => k_is)
    (case k51 => k_is)
    (case pa52 => k_is)
    (case pg52 => k_is)
    (case pt52 => k_is)
    (case pr52 => k_is)
    (case l52 => k_is)
    (case c52 => k_is)
    (case k52 => k_is)
    (case pa53 => k_is)
    (case pg53 => k_is)
    (case pt53 => k_is)
    (case pr53 => k_is)
    (case l53 => k_is)
    (case c53 => k_is)
    (case k53 => k_is)
    (case a54 => k_is)
    (case i54 => k_is)
    (case l54 => k_is)
    (case c54 => k_is)
    (case k54 => k_is)
    (case a55 => k_is)
    (case i55 => k_is)
    (case l55 => k_is)
    (case c55 => k_is)
    (case k55 => k_is)
    (case a56 => k_is)
    (case i56 => k_is)
    (case l56 => k_is)
    (case c56 => k_is)
    (case k56 => k_is)
    (case a57 => k_is)
    (case i57 => k_is)
    (case l57 => k_is)
    (case c57 => k_is)
    (case k57 => k_is)
    (case qfProgramof => k_is)
    (case qrProgramof => k_is)
    (case qiProgramof => k_is)
    (case qxProgramof => k_is)
    (case l58 => k_is)
    (case c58 => k_is)
    (case k58 => k_is)
    (case pa59 => k_is)
    (case pg59 => k_is)
    (case pt59 => k_is)
    (case pr59 => k_is)
    (case l59 => k_is)
    (case c59 => k_is)
    (case k59 => k_is)
    (case pa60 => k_is)
    (case pg60 => k_is)
    (case pt60 => k_is)
    (case pr60 => k_is)
    (case l60 => k_is)
    (case c60 => k_is)
    (case k60 => k_is)
    (case a61 => k_is)
    (case i61 => k_is)
    (case l61 => k_is)
    (case c61 => k_is)
    (case k61 => k_is)
    (case a62 => k_is)
    (case i62 => k_is)
    (case l62 => k_is)
    (case c62 => k_is)
    (case k62 => k_is)
    (case pa63 => k_is)
    (case pg63 => k_is)
    (case pt63 => k_is)
    (case pr63 => k_is)
    (case l63 => k_is)
    (case c63 => k_is)
    (case k63 => k_is)
    (case a64 => k_is)
    (case i64 => k_is)
    (case l64 => k_is)
    (case c64 => k_is)
    (case k64 => k_is)
    (case z_isinstance => k_is)
    (case z_str => k_is)
    (case z_tuple => k_is)
    (case z_list => k_is)
    (case z_bool => k_is)
    (case z_len => k_is)
    (case z_all => k_is)
    (case z_int => k_is)
    (case z_abs => k_is)
    (case z_max => k_is)
    (case z_min => k_is)
    (case z_range => k_is)
    (case z_zip => k_is)
    (case z_sorted => k_is)
    (case z_set => k_is)
    (case z_any => k_is)
    (case z_sum => k_is)
    (case z_divmod => k_is)
    (case z_repr => k_is)
    (case z_dict => k_is)
    (case y_MAX_LETTERS => k_is)
    (case y_MAX_MODES => k_is)
    (case y_MAX_PARAMETERS => k_is)
    (case y_MAX_DEPTH => k_is)
    (case y_MAX_TERMS => k_is)
    (case y_MAX_PROCEDURES => k_is)
    (case y_MAX_MODES_WITH_WRAPS => k_is)
    (case y_KINDS => k_is)
    (case x_KINDS => k_is)
    (case y_TERM_TAGS => k_is)
    (case x_TERM_TAGS => k_is)
    (case y_WRAP_TAGS => k_is)
    (case x_WRAP_TAGS => k_is)
    (case qpgC => k_is)
    (case qhdC => k_is)
    (case qpoC => k_is)
    (case qsaC => k_is)
    (case qmkC => k_is)
    (case qkcC => k_is)
    (case nC_named => k_is)
    (case nC_parameters => k_is)
    (case nC_body => k_is)
    (case nC_parts => k_is)
    (case nC_kinds => k_is)
    (case nC_words => k_is)
    (case nC_uses => k_is)
    (case qhaC => k_is)
    (case qhmC => k_is)
    (case qisC => k_is)
    (case qtyC => k_is)
    (case u_CNoneType => first | k_is | rfl)
    (case u_Cbool => first | k_is | rfl)
    (case u_Cint => first | k_is | rfl)
    (case u_Cstr => first | k_is | rfl)
    (case u_Ctuple => first | k_is | rfl)
    (case u_Clist => first | k_is | rfl)
    (case u_Cdict => first | k_is | rfl)
    (case v_CNoneType => k_is)
    (case v_Cbool => k_is)
    (case v_Cint => k_is)
    (case v_Cstr => k_is)
    (case v_Ctuple => k_is)
    (case v_Clist => k_is)
    (case v_Cdict => k_is)
    (case qneC => k_is)
    (case qnsC => k_is)
    (case qpgCP => k_is)
    (case qhdCP => k_is)
    (case qpoCP => k_is)
    (case qsaCP => k_is)
    (case qmkCP => k_is)
    (case qkcCP => k_is)
    (case nCP_modes => k_is)
    (case nCP_procedures => k_is)
    (case nCP_by_name => k_is)
    (case nCP_names => k_is)
    (case nCP_words => k_is)
    (case nCP_has_wraps => k_is)
    (case qhaCP => k_is)
    (case qhmCP => k_is)
    (case qisCP => k_is)
    (case qtyCP => k_is)
    (case u_CPNoneType => first | k_is | rfl)
    (case u_CPbool => first | k_is | rfl)
    (case u_CPint => first | k_is | rfl)
    (case u_CPstr => first | k_is | rfl)
    (case u_CPtuple => first | k_is | rfl)
    (case u_CPlist => first | k_is | rfl)
    (case u_CPdict => first | k_is | rfl)
    (case v_CPNoneType => k_is)
    (case v_CPbool => k_is)
    (case v_CPint => k_is)
    (case v_CPstr => k_is)
    (case v_CPtuple => k_is)
    (case v_CPlist => k_is)
    (case v_CPdict => k_is)
    (case qneCP => k_is)
    (case qnsCP => k_is)
    (case qrdCP => k_is)
    (case qgaCP => k_is)
    (case qpgCS => k_is)
    (case qhdCS => k_is)
    (case qpoCS => k_is)
    (case qsaCS => k_is)
    (case qmkCS => k_is)
    (case qkcCS => k_is)
    (case nCS_modes => k_is)
    (case nCS_watched => k_is)
    (case nCS_ends => k_is)
    (case nCS_size => k_is)
    (case nCS_same => k_is)
    (case qhaCS => k_is)
    (case qhmCS => k_is)
    (case qisCS => k_is)
    (case qtyCS => k_is)
    (case u_CSNoneType => first | k_is | rfl)
    (case u_CSbool => first | k_is | rfl)
    (case u_CSint => first | k_is | rfl)
    (case u_CSstr => first | k_is | rfl)
    (case u_CStuple => first | k_is | rfl)
    (case u_CSlist => first | k_is | rfl)
    (case u_CSdict => first | k_is | rfl)
    (case v_CSNoneType => k_is)
    (case v_CSbool => k_is)
    (case v_CSint => k_is)
    (case v_CSstr => k_is)
    (case v_CStuple => k_is)
    (case v_CSlist => k_is)
    (case v_CSdict => k_is)
    (case qhn => k_is)
    (case qht => k_is)
    (case kCI => k_is)
    (case bCI => k_is)
    (case tCI => k_is)
    (case icCI => k_is)
    (case sCICI => k_is)
    (case v_selfS => k_is)
    (case qof0 => k_is)
    (case w62 => k_is)
    (case w26 => k_is)
    (case xdT => k_is)
    (case xCI => kernel_rfl)
    (case kPC => kernel_rfl)
    (case kCP => kernel_rfl)
